/-
  Contracts of May of layer 1 (point) and of its document's answer, for any point. Memory that was there is left as it was.
-/
import Derived.Test.YtkkolodolmppnaaProg
import Derived.Test.YtkkolodolmppnaaPtPlain
import Derived.WalkKit
import Derived.WalkSpells
import Derived.RowKit3
import Derived.Below
import Derived.Lib.Hide
namespace Go.Proofs.Ytkkolodolmppnaa.Pt
open Go.RowKit

theorem inRange_any (n : Int) (w : World) : Calls Try.prog 37 #[.int .i64 n] w fun e w' => e = .returned (.bool (inR n)) ∧ w = w' := by
  by_cases h1 : -1073741824 ≤ n
  · by_cases h2 : n ≤ 1073741824
    · rw [show inR n = true from inR_iff.2 ⟨h1, h2⟩]
      go_enter Try.func37, Try.ntmps37
      go_wp2
      go_ret
      exact ⟨rfl, rfl⟩
    · rw [show inR n = false from inR_no (by omega)]
      go_enter Try.func37, Try.ntmps37
      go_wp2
      go_ret
      exact ⟨rfl, rfl⟩
  · rw [show inR n = false from inR_no (by omega)]
    go_enter Try.func37, Try.ntmps37
    go_wp2
    go_ret
    exact ⟨rfl, rfl⟩

theorem far_any (n : Int) (w : World) : Calls Try.prog 14 #[.int .i64 n] w fun e w' => e = .returned (.bool (!inR n)) ∧ w = w' := by
  by_cases h1 : n < -1073741824
  · rw [show inR n = false from inR_no (by omega)]
    go_enter Try.func14, Try.ntmps14
    go_wp2
    go_ret
    exact ⟨rfl, rfl⟩
  · by_cases h2 : 1073741824 < n
    · rw [show inR n = false from inR_no (by omega)]
      go_enter Try.func14, Try.ntmps14
      go_wp2
      go_ret
      exact ⟨rfl, rfl⟩
    · rw [show inR n = true from inR_iff.2 (by omega)]
      go_enter Try.func14, Try.ntmps14
      go_wp2
      go_ret
      exact ⟨rfl, rfl⟩

theorem bcell {W w1 : World} (hb : Below W.heap.size W w1) : (∀ b o, b < W.heap.size → w1.cell? ⟨b, o, none⟩ = W.cell? ⟨b, o, none⟩) ∧ (∀ b o, b < W.heap.size → w1.frozen? ⟨b, o, none⟩ = W.frozen? ⟨b, o, none⟩) :=
  ⟨fun b o h => hb.cell (p := ⟨b, o, none⟩) h, fun b o h => hb.frozen (p := ⟨b, o, none⟩) h⟩
theorem mayB_bd {x y : Int} (h : mayB x y = true) : inR x = true ∧ inR y = true := mayB_iff.1 h

theorem may_any (x y : Int) (w : World) : Calls Try.prog 27 #[.agg #[.int .i64 x, .int .i64 y]] w fun e w' => e = .returned (.bool (mayB x y)) ∧ Below w.heap.size w w' := by
  by_cases h1 : inR x = true
  · rw [show mayB x y = inR y by unfold mayB; rw [h1]; rfl]
    go_enter Try.func27, Try.ntmps27
    go_wp2_with (go_at_call 37; refine (inRange_any _ _).mono ?_; rintro e w' ⟨rfl, rfl⟩)
    go_ret
    exact ⟨rfl, (Below.refl _ _).alloc (Nat.le_refl _) _⟩
  · have h0 : inR x = false := by simpa using h1
    rw [show mayB x y = false by unfold mayB; rw [h0]; rfl]
    go_enter Try.func27, Try.ntmps27
    go_wp2_with (go_at_call 37; refine (inRange_any _ _).mono ?_; rintro e w' ⟨rfl, rfl⟩)
    go_ret
    exact ⟨rfl, (Below.refl _ _).alloc (Nat.le_refl _) _⟩

theorem refMay_any (x y : Int) (w : World) : Calls Try.prog 7 #[.agg #[.int .i64 x, .int .i64 y]] w fun e w' => e = .returned (.bool (mayB x y)) ∧ Below w.heap.size w w' := by
  by_cases h1 : inR x = true
  · rw [show mayB x y = inR y by unfold mayB; rw [h1]; rfl]
    go_enter Try.func7, Try.ntmps7
    go_wp2_with (go_at_call 14; refine (far_any _ _).mono ?_; rintro e w' ⟨rfl, rfl⟩)
    go_ret
    exact ⟨by simp, (Below.refl _ _).alloc (Nat.le_refl _) _⟩
  · have h0 : inR x = false := by simpa using h1
    rw [show mayB x y = false by unfold mayB; rw [h0]; rfl]
    go_enter Try.func7, Try.ntmps7
    go_wp2_with (go_at_call 14; refine (far_any _ _).mono ?_; rintro e w' ⟨rfl, rfl⟩)
    go_ret
    exact ⟨rfl, (Below.refl _ _).alloc (Nat.le_refl _) _⟩
end Go.Proofs.Ytkkolodolmppnaa.Pt
