/-
  Contracts of May of layer 2 (rect), and of the document's answers Rect and Holds. Memory that was there is left as it was.
-/
import Derived.Test.YtkkolodolmppnaaRcLeafA
import Derived.Test.YtkkolodolmppnaaKeepR
import Derived.Deep.RegionHeld3
import Derived.IntWalk
namespace Go.Proofs.Ytkkolodolmppnaa.Rc
open Go.RowKit Go.Proofs.Ytkkolodolmppnaa.Pt

theorem rmay_any (x1 y1 x2 y2 : Int) (w : World) : Calls Try.prog 38 #[.agg #[.int .i64 x1, .int .i64 y1, .int .i64 x2, .int .i64 y2]] w fun e w' => e = .returned (.bool (rmayB x1 y1 x2 y2)) ∧ Below w.heap.size w w' := by
  have L := Kp.adq0 ⟨Nat.le_refl _, Below.refl w.heap.size w⟩ w.heap.size rfl (.int .i64 x1) (.int .i64 y1) (.int .i64 x2) (.int .i64 y2) 25
  cases h1 : mayB x1 y1
  · rw [show rmayB x1 y1 x2 y2 = false by unfold rmayB; rw [h1]; rfl]
    go_enter Try.func38, Try.ntmps38
    go_wp2_with (first | (go_at_call 41; refine (low_any _ _ _ _ _).mono ?_; rintro e w1 ⟨rfl, hb1⟩; have K1 := Kp.keep4 hb1 (by assumption); clear hb1) | (go_at_call 42; refine (high_any _ _ _ _ _).mono ?_; rintro e w1 ⟨rfl, hb1⟩; have K1 := Kp.keep4 hb1 (by assumption); clear hb1) | (go_at_call 27; refine (may_any _ _ _).mono ?_; rintro e w1 ⟨rfl, hb1⟩; have K1 := Kp.keep4 hb1 (by assumption); clear hb1) | (go_at_call 43; refine (inOrder_any _ _ _ _ _).mono ?_; rintro e w1 ⟨rfl, hb1⟩; have K1 := Kp.keep4 hb1 (by assumption); clear hb1))
    go_ret
    exact ⟨rfl, Kp.end4 (by assumption)⟩
  cases h2 : mayB x2 y2
  · rw [show rmayB x1 y1 x2 y2 = false by unfold rmayB; rw [h1, h2]; rfl]
    go_enter Try.func38, Try.ntmps38
    go_wp2_with (first | (go_at_call 41; refine (low_any _ _ _ _ _).mono ?_; rintro e w1 ⟨rfl, hb1⟩; have K1 := Kp.keep4 hb1 (by assumption); clear hb1) | (go_at_call 42; refine (high_any _ _ _ _ _).mono ?_; rintro e w1 ⟨rfl, hb1⟩; have K1 := Kp.keep4 hb1 (by assumption); clear hb1) | (go_at_call 27; refine (may_any _ _ _).mono ?_; rintro e w1 ⟨rfl, hb1⟩; have K1 := Kp.keep4 hb1 (by assumption); clear hb1) | (go_at_call 43; refine (inOrder_any _ _ _ _ _).mono ?_; rintro e w1 ⟨rfl, hb1⟩; have K1 := Kp.keep4 hb1 (by assumption); clear hb1))
    go_ret
    exact ⟨rfl, Kp.end4 (by assumption)⟩
  rw [show rmayB x1 y1 x2 y2 = ordB x1 y1 x2 y2 by unfold rmayB; rw [h1, h2]; rfl]
  go_enter Try.func38, Try.ntmps38
  go_wp2_with (first | (go_at_call 41; refine (low_any _ _ _ _ _).mono ?_; rintro e w1 ⟨rfl, hb1⟩; have K1 := Kp.keep4 hb1 (by assumption); clear hb1) | (go_at_call 42; refine (high_any _ _ _ _ _).mono ?_; rintro e w1 ⟨rfl, hb1⟩; have K1 := Kp.keep4 hb1 (by assumption); clear hb1) | (go_at_call 27; refine (may_any _ _ _).mono ?_; rintro e w1 ⟨rfl, hb1⟩; have K1 := Kp.keep4 hb1 (by assumption); clear hb1) | (go_at_call 43; refine (inOrder_any _ _ _ _ _).mono ?_; rintro e w1 ⟨rfl, hb1⟩; have K1 := Kp.keep4 hb1 (by assumption); clear hb1))
  go_ret
  exact ⟨rfl, Kp.end4 (by assumption)⟩

theorem refRect_any (x1 y1 x2 y2 : Int) (w : World) : Calls Try.prog 8 #[.agg #[.int .i64 x1, .int .i64 y1, .int .i64 x2, .int .i64 y2]] w fun e w' => e = .returned (.bool (rmayB x1 y1 x2 y2)) ∧ Below w.heap.size w w' := by
  have L := Kp.adq0 ⟨Nat.le_refl _, Below.refl w.heap.size w⟩ w.heap.size rfl (.int .i64 x1) (.int .i64 y1) (.int .i64 x2) (.int .i64 y2) 25
  cases h1 : mayB x1 y1
  · rw [show rmayB x1 y1 x2 y2 = false by unfold rmayB; rw [h1]; rfl]
    go_enter Try.func8, Try.ntmps8
    go_wp2_with (go_at_call 7; refine (refMay_any _ _ _).mono ?_; rintro e w1 ⟨rfl, hb1⟩; have K1 := Kp.keep4 hb1 (by assumption); clear hb1)
    go_ret
    exact ⟨rfl, Kp.end4 (by assumption)⟩
  cases h2 : mayB x2 y2
  · rw [show rmayB x1 y1 x2 y2 = false by unfold rmayB; rw [h1, h2]; rfl]
    go_enter Try.func8, Try.ntmps8
    go_wp2_with (go_at_call 7; refine (refMay_any _ _ _).mono ?_; rintro e w1 ⟨rfl, hb1⟩; have K1 := Kp.keep4 hb1 (by assumption); clear hb1)
    go_ret
    exact ⟨rfl, Kp.end4 (by assumption)⟩
  rw [show rmayB x1 y1 x2 y2 = ordB x1 y1 x2 y2 by unfold rmayB; rw [h1, h2]; rfl]
  go_enter Try.func8, Try.ntmps8
  go_wp2_with (go_at_call 7; refine (refMay_any _ _ _).mono ?_; rintro e w1 ⟨rfl, hb1⟩; have K1 := Kp.keep4 hb1 (by assumption); clear hb1)
  all_goals (go_ret; exact ⟨by simp [ordB, *] <;> omega, Kp.end4 (by assumption)⟩)

end Go.Proofs.Ytkkolodolmppnaa.Rc
