/-
  Contract of the document's answer one: the token at a place of a text, where it ends, and whether it is well. Memory that was there is left as it was.
-/
import Derived.Test.YtmjlfmoaoobmnaaDoorTkOneName
import Derived.Test.YtmjlfmoaoobmnaaDoorTkOneText
import Derived.Test.YtmjlfmoaoobmnaaDoorTkOneSign
import Derived.Test.YtmjlfmoaoobmnaaDoorTkOneNum
namespace Go.Proofs.YtmjlfmoaoobmnaaDoor.Tk
open Go.RowKit
set_option linter.unusedVariables false

theorem refOne_any (s : ByteArray) (hs : s.size ≤ 500) (a : Nat) (c : UInt8) (r : List UInt8) (hL : s.data.toList.drop a = c :: r) (w : World) :
    Calls Tryd.prog 13 #[.string s, .int .i64 (a : Nat)] w fun e w' => OneEnd a e (lex (c :: r)) ∧ Below w.heap.size w w' := by
  rw [lex_cons]
  by_cases h1 : low c = true
  · rw [if_pos h1]
    exact oneName s hs a c r hL h1 w
  · have h1f : low c = false := by simpa using h1
    rw [if_neg h1]
    by_cases h2 : dig c = true
    · rw [h2, Bool.true_or, if_pos rfl]
      exact oneNumPlain s hs a c r hL h1f h2 (by simp only [dig, Bool.and_eq_true, decide_eq_true_eq] at h2; omega) w
    · have h2f : dig c = false := by simpa using h2
      rw [h2f, Bool.false_or]
      by_cases h3 : c.toNat = 45
      · rw [if_pos (by rw [h3]; rfl)]
        exact oneNumMinus s hs a c r hL h1f h2f h3 w
      · rw [if_neg (fun h => h3 (eq_of_beq h))]
        by_cases h4 : c.toNat = 34
        · rw [if_pos (by rw [h4]; rfl)]
          exact oneText s hs a c r hL h1f h2f h4 w
        · rw [if_neg (fun h => h4 (eq_of_beq h))]
          exact oneSign s hs a c r hL h1f h2f h3 h4 w
end Go.Proofs.YtmjlfmoaoobmnaaDoor.Tk
