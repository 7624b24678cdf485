/-
  Contracts of May of layer 2 (rect), and of the document's answers Rect and Holds. Memory that was there is left as it was.
-/
import Derived.Test.YtdklmempblidoaaRcLeafA
import Derived.Test.YtdklmempblidoaaKeepR
import Derived.Deep.RegionHeld3
import Derived.IntWalk
namespace Go.Proofs.Ytdklmempblidoaa.Rc
open Go.RowKit Go.Proofs.Ytdklmempblidoaa.Pt

theorem rmay_any (x1 y1 x2 y2 : Int) (w : World) : Calls Try.prog 34 #[.agg #[.int .i64 x1, .int .i64 y1, .int .i64 x2, .int .i64 y2]] w fun e w' => e = .returned (.bool (rmayB x1 y1 x2 y2)) ∧ Below w.heap.size w w' := by
  have L := Kp.adq0 ⟨Nat.le_refl _, Below.refl w.heap.size w⟩ w.heap.size rfl (.int .i64 x1) (.int .i64 y1) (.int .i64 x2) (.int .i64 y2) 23
  cases h1 : mayB x1 y1
  · rw [show rmayB x1 y1 x2 y2 = false by unfold rmayB; rw [h1]; rfl]
    go_enter Try.func34, Try.ntmps34
    go_wp2_with (first | (go_at_call 44; refine (low_any _ _ _ _ _).mono ?_; rintro e w1 ⟨rfl, hb1⟩; have K1 := Kp.keep4 hb1 (by assumption); clear hb1) | (go_at_call 45; refine (high_any _ _ _ _ _).mono ?_; rintro e w1 ⟨rfl, hb1⟩; have K1 := Kp.keep4 hb1 (by assumption); clear hb1) | (go_at_call 29; refine (may_any _ _ _).mono ?_; rintro e w1 ⟨rfl, hb1⟩; have K1 := Kp.keep4 hb1 (by assumption); clear hb1) | (go_at_call 46; refine (inOrder_any _ _ _ _ _).mono ?_; rintro e w1 ⟨rfl, hb1⟩; have K1 := Kp.keep4 hb1 (by assumption); clear hb1))
    go_ret
    exact ⟨rfl, Kp.end4 (by assumption)⟩
  cases h2 : mayB x2 y2
  · rw [show rmayB x1 y1 x2 y2 = false by unfold rmayB; rw [h1, h2]; rfl]
    go_enter Try.func34, Try.ntmps34
    go_wp2_with (first | (go_at_call 44; refine (low_any _ _ _ _ _).mono ?_; rintro e w1 ⟨rfl, hb1⟩; have K1 := Kp.keep4 hb1 (by assumption); clear hb1) | (go_at_call 45; refine (high_any _ _ _ _ _).mono ?_; rintro e w1 ⟨rfl, hb1⟩; have K1 := Kp.keep4 hb1 (by assumption); clear hb1) | (go_at_call 29; refine (may_any _ _ _).mono ?_; rintro e w1 ⟨rfl, hb1⟩; have K1 := Kp.keep4 hb1 (by assumption); clear hb1) | (go_at_call 46; refine (inOrder_any _ _ _ _ _).mono ?_; rintro e w1 ⟨rfl, hb1⟩; have K1 := Kp.keep4 hb1 (by assumption); clear hb1))
    go_ret
    exact ⟨rfl, Kp.end4 (by assumption)⟩
  rw [show rmayB x1 y1 x2 y2 = ordB x1 y1 x2 y2 by unfold rmayB; rw [h1, h2]; rfl]
  go_enter Try.func34, Try.ntmps34
  go_wp2_with (first | (go_at_call 44; refine (low_any _ _ _ _ _).mono ?_; rintro e w1 ⟨rfl, hb1⟩; have K1 := Kp.keep4 hb1 (by assumption); clear hb1) | (go_at_call 45; refine (high_any _ _ _ _ _).mono ?_; rintro e w1 ⟨rfl, hb1⟩; have K1 := Kp.keep4 hb1 (by assumption); clear hb1) | (go_at_call 29; refine (may_any _ _ _).mono ?_; rintro e w1 ⟨rfl, hb1⟩; have K1 := Kp.keep4 hb1 (by assumption); clear hb1) | (go_at_call 46; refine (inOrder_any _ _ _ _ _).mono ?_; rintro e w1 ⟨rfl, hb1⟩; have K1 := Kp.keep4 hb1 (by assumption); clear hb1))
  go_ret
  exact ⟨rfl, Kp.end4 (by assumption)⟩

theorem refRect_any (x1 y1 x2 y2 : Int) (w : World) : Calls Try.prog 7 #[.agg #[.int .i64 x1, .int .i64 y1, .int .i64 x2, .int .i64 y2]] w fun e w' => e = .returned (.bool (rmayB x1 y1 x2 y2)) ∧ Below w.heap.size w w' := by
  have L := Kp.adq0 ⟨Nat.le_refl _, Below.refl w.heap.size w⟩ w.heap.size rfl (.int .i64 x1) (.int .i64 y1) (.int .i64 x2) (.int .i64 y2) 23
  cases h1 : mayB x1 y1
  · rw [show rmayB x1 y1 x2 y2 = false by unfold rmayB; rw [h1]; rfl]
    go_enter Try.func7, Try.ntmps7
    go_wp2_with (go_at_call 17; refine (refMay_any _ _ _).mono ?_; rintro e w1 ⟨rfl, hb1⟩; have K1 := Kp.keep4 hb1 (by assumption); clear hb1)
    go_ret
    exact ⟨rfl, Kp.end4 (by assumption)⟩
  cases h2 : mayB x2 y2
  · rw [show rmayB x1 y1 x2 y2 = false by unfold rmayB; rw [h1, h2]; rfl]
    go_enter Try.func7, Try.ntmps7
    go_wp2_with (go_at_call 17; refine (refMay_any _ _ _).mono ?_; rintro e w1 ⟨rfl, hb1⟩; have K1 := Kp.keep4 hb1 (by assumption); clear hb1)
    go_ret
    exact ⟨rfl, Kp.end4 (by assumption)⟩
  rw [show rmayB x1 y1 x2 y2 = ordB x1 y1 x2 y2 by unfold rmayB; rw [h1, h2]; rfl]
  go_enter Try.func7, Try.ntmps7
  go_wp2_with (go_at_call 17; refine (refMay_any _ _ _).mono ?_; rintro e w1 ⟨rfl, hb1⟩; have K1 := Kp.keep4 hb1 (by assumption); clear hb1)
  all_goals (go_ret; exact ⟨by simp [ordB, *] <;> omega, Kp.end4 (by assumption)⟩)

theorem refHolds_any (ax1 ay1 ax2 ay2 bx1 by1 bx2 by2 : Int) (w : World) : Calls Try.prog 13 #[.agg #[.int .i64 ax1, .int .i64 ay1, .int .i64 ax2, .int .i64 ay2], .agg #[.int .i64 bx1, .int .i64 by1, .int .i64 bx2, .int .i64 by2]] w fun e w' => e = .returned (.bool (holdsB ax1 ay1 ax2 ay2 bx1 by1 bx2 by2)) ∧ Below w.heap.size w w' := by
  have L := Kp.adq4 (Kp.adq0 ⟨Nat.le_refl _, Below.refl w.heap.size w⟩ w.heap.size rfl (.int .i64 ax1) (.int .i64 ay1) (.int .i64 ax2) (.int .i64 ay2) 23) (w.heap.size + 1) (by simp) (.int .i64 bx1) (.int .i64 by1) (.int .i64 bx2) (.int .i64 by2) 23
  cases h1 : inB ax1 ay1 ax2 ay2 bx1 by1
  · rw [show holdsB ax1 ay1 ax2 ay2 bx1 by1 bx2 by2 = false by unfold holdsB; rw [h1]; rfl]
    go_enter Try.func13, Try.ntmps13
    go_wp2_with (go_at_call 16; refine (refIn_any _ _ _ _ _ _ _).mono ?_; rintro e w1 ⟨rfl, hb1⟩; have K1 := Kp.keep8 hb1 (by assumption); clear hb1)
    go_ret
    exact ⟨rfl, Kp.end8 (by assumption)⟩
  rw [show holdsB ax1 ay1 ax2 ay2 bx1 by1 bx2 by2 = inB ax1 ay1 ax2 ay2 bx2 by2 by unfold holdsB; rw [h1]; rfl]
  go_enter Try.func13, Try.ntmps13
  go_wp2_with (go_at_call 16; refine (refIn_any _ _ _ _ _ _ _).mono ?_; rintro e w1 ⟨rfl, hb1⟩; have K1 := Kp.keep8 hb1 (by assumption); clear hb1)
  go_ret
  exact ⟨rfl, Kp.end8 (by assumption)⟩
end Go.Proofs.Ytdklmempblidoaa.Rc
