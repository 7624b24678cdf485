/-
  Contracts of May of layer 2 (rect), and of the document's answers Rect and Holds. Memory that was there is left as it was.
-/
import Derived.Test.YtiggjaodfmelpaaRcLeafA
import Derived.Test.YtiggjaodfmelpaaKeepR
import Derived.Deep.RegionHeld3
import Derived.IntWalk
namespace Go.Proofs.Ytiggjaodfmelpaa.Rc
open Go.RowKit Go.Proofs.Ytiggjaodfmelpaa.Pt

theorem rmay_any (x1 y1 x2 y2 : Int) (w : World) : Calls Try.prog 26 #[.agg #[.int .i64 x1, .int .i64 y1, .int .i64 x2, .int .i64 y2]] w fun e w' => e = .returned (.bool (rmayB x1 y1 x2 y2)) ∧ Below w.heap.size w w' := by
  have L := Kp.adq0 ⟨Nat.le_refl _, Below.refl w.heap.size w⟩ w.heap.size rfl (.int .i64 x1) (.int .i64 y1) (.int .i64 x2) (.int .i64 y2) 23
  cases h1 : mayB x1 y1
  · rw [show rmayB x1 y1 x2 y2 = false by unfold rmayB; rw [h1]; rfl]
    go_enter Try.func26, Try.ntmps26
    go_wp2_with (first | (go_at_call 44; refine (low_any _ _ _ _ _).mono ?_; rintro e w1 ⟨rfl, hb1⟩; have K1 := Kp.keep4 hb1 (by assumption); clear hb1) | (go_at_call 45; refine (high_any _ _ _ _ _).mono ?_; rintro e w1 ⟨rfl, hb1⟩; have K1 := Kp.keep4 hb1 (by assumption); clear hb1) | (go_at_call 28; refine (may_any _ _ _).mono ?_; rintro e w1 ⟨rfl, hb1⟩; have K1 := Kp.keep4 hb1 (by assumption); clear hb1) | (go_at_call 46; refine (inOrder_any _ _ _ _ _).mono ?_; rintro e w1 ⟨rfl, hb1⟩; have K1 := Kp.keep4 hb1 (by assumption); clear hb1))
    go_ret
    exact ⟨rfl, Kp.end4 (by assumption)⟩
  cases h2 : mayB x2 y2
  · rw [show rmayB x1 y1 x2 y2 = false by unfold rmayB; rw [h1, h2]; rfl]
    go_enter Try.func26, Try.ntmps26
    go_wp2_with (first | (go_at_call 44; refine (low_any _ _ _ _ _).mono ?_; rintro e w1 ⟨rfl, hb1⟩; have K1 := Kp.keep4 hb1 (by assumption); clear hb1) | (go_at_call 45; refine (high_any _ _ _ _ _).mono ?_; rintro e w1 ⟨rfl, hb1⟩; have K1 := Kp.keep4 hb1 (by assumption); clear hb1) | (go_at_call 28; refine (may_any _ _ _).mono ?_; rintro e w1 ⟨rfl, hb1⟩; have K1 := Kp.keep4 hb1 (by assumption); clear hb1) | (go_at_call 46; refine (inOrder_any _ _ _ _ _).mono ?_; rintro e w1 ⟨rfl, hb1⟩; have K1 := Kp.keep4 hb1 (by assumption); clear hb1))
    go_ret
    exact ⟨rfl, Kp.end4 (by assumption)⟩
  rw [show rmayB x1 y1 x2 y2 = ordB x1 y1 x2 y2 by unfold rmayB; rw [h1, h2]; rfl]
  go_enter Try.func26, Try.ntmps26
  go_wp2_with (first | (go_at_call 44; refine (low_any _ _ _ _ _).mono ?_; rintro e w1 ⟨rfl, hb1⟩; have K1 := Kp.keep4 hb1 (by assumption); clear hb1) | (go_at_call 45; refine (high_any _ _ _ _ _).mono ?_; rintro e w1 ⟨rfl, hb1⟩; have K1 := Kp.keep4 hb1 (by assumption); clear hb1) | (go_at_call 28; refine (may_any _ _ _).mono ?_; rintro e w1 ⟨rfl, hb1⟩; have K1 := Kp.keep4 hb1 (by assumption); clear hb1) | (go_at_call 46; refine (inOrder_any _ _ _ _ _).mono ?_; rintro e w1 ⟨rfl, hb1⟩; have K1 := Kp.keep4 hb1 (by assumption); clear hb1))
  go_ret
  exact ⟨rfl, Kp.end4 (by assumption)⟩

theorem refRect_any (x1 y1 x2 y2 : Int) (w : World) : Calls Try.prog 21 #[.agg #[.int .i64 x1, .int .i64 y1, .int .i64 x2, .int .i64 y2]] w fun e w' => e = .returned (.bool (rmayB x1 y1 x2 y2)) ∧ Below w.heap.size w w' := by
  have L := Kp.adq0 ⟨Nat.le_refl _, Below.refl w.heap.size w⟩ w.heap.size rfl (.int .i64 x1) (.int .i64 y1) (.int .i64 x2) (.int .i64 y2) 23
  cases h1 : mayB x1 y1
  · rw [show rmayB x1 y1 x2 y2 = false by unfold rmayB; rw [h1]; rfl]
    go_enter Try.func21, Try.ntmps21
    go_wp2_with (go_at_call 20; refine (refMay_any _ _ _).mono ?_; rintro e w1 ⟨rfl, hb1⟩; have K1 := Kp.keep4 hb1 (by assumption); clear hb1)
    go_ret
    exact ⟨rfl, Kp.end4 (by assumption)⟩
  cases h2 : mayB x2 y2
  · rw [show rmayB x1 y1 x2 y2 = false by unfold rmayB; rw [h1, h2]; rfl]
    go_enter Try.func21, Try.ntmps21
    go_wp2_with (go_at_call 20; refine (refMay_any _ _ _).mono ?_; rintro e w1 ⟨rfl, hb1⟩; have K1 := Kp.keep4 hb1 (by assumption); clear hb1)
    go_ret
    exact ⟨rfl, Kp.end4 (by assumption)⟩
  rw [show rmayB x1 y1 x2 y2 = ordB x1 y1 x2 y2 by unfold rmayB; rw [h1, h2]; rfl]
  go_enter Try.func21, Try.ntmps21
  go_wp2_with (go_at_call 20; refine (refMay_any _ _ _).mono ?_; rintro e w1 ⟨rfl, hb1⟩; have K1 := Kp.keep4 hb1 (by assumption); clear hb1)
  all_goals (go_ret; exact ⟨by simp [ordB, *] <;> omega, Kp.end4 (by assumption)⟩)

end Go.Proofs.Ytiggjaodfmelpaa.Rc
