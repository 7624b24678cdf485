/-
  Contract of the document's answer In, for any rectangle and point. Memory that was there is left as it was.
-/
import Derived.Test.YteldmacgbdlmiaaProg
import Derived.Test.YteldmacgbdlmiaaRcPlain
import Derived.WalkKit
import Derived.WalkSpells
import Derived.RowKit3
import Derived.Below
namespace Go.Proofs.Yteldmacgbdlmiaa.Mo
open Go.RowKit Go.Proofs.Yteldmacgbdlmiaa.Rc

theorem refIn_any (x1 y1 x2 y2 px py : Int) (w : World) : Calls Try.prog 18 #[.agg #[.int .i64 x1, .int .i64 y1, .int .i64 x2, .int .i64 y2], .agg #[.int .i64 px, .int .i64 py]] w fun e w' => e = .returned (.bool (inB x1 y1 x2 y2 px py)) ∧ Below w.heap.size w w' := by
  go_enter Try.func18, Try.ntmps18
  go_wp2
  all_goals (go_ret; exact ⟨by simp [inB, *] <;> omega, ((Below.refl _ _).alloc (Nat.le_refl _) _).alloc (by simp) _⟩)
end Go.Proofs.Yteldmacgbdlmiaa.Mo
