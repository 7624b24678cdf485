/-
  The walk of the statement PointTells: whatever four points it is given, it returns true, and memory that was there is left as it was.
-/
import Derived.Test.YtjdeoneefgoaaaaPtUp
import Derived.Test.YtjdeoneefgoaaaaPtCross
import Derived.Test.YtjdeoneefgoaaaaPtRef
namespace Go.Proofs.Ytjdeoneefgoaaaa.Pt
open Go.RowKit

theorem refCross_same (ax ay bx b2 cx cy dx dy : Int) (w : World) (ha : mayB ax ay = true) (hb : mayB bx b2 = true) (hc : mayB cx cy = true) (hd : mayB dx dy = true) :
    Calls Try.prog 14 #[.agg #[.int .i64 ax, .int .i64 ay], .agg #[.int .i64 bx, .int .i64 b2], .agg #[.int .i64 cx, .int .i64 cy], .agg #[.int .i64 dx, .int .i64 dy]] w fun e w' => e = .returned (.bool (crossB ax ay bx b2 cx cy dx dy)) ∧ Below w.heap.size w w' := by
  rw [← crossR_eq]; exact refCross_any ax ay bx b2 cx cy dx dy w ha hb hc hd

set_option maxHeartbeats 1000000 in
theorem tells_no1 (ax ay bx b2 cx cy dx dy : Int) (w : World)  (h1 : mayB ax ay = false) :
    Calls Try.prog 3 #[.agg #[.int .i64 ax, .int .i64 ay], .agg #[.int .i64 bx, .int .i64 b2], .agg #[.int .i64 cx, .int .i64 cy], .agg #[.int .i64 dx, .int .i64 dy]] w fun e w' => e = .returned (.bool true) ∧ Below w.heap.size w w' := by
  have L := Kp.add6 (Kp.add4 (Kp.add2 (Kp.add0 ⟨Nat.le_refl _, Below.refl w.heap.size w⟩ w.heap.size rfl (.int .i64 ax) (.int .i64 ay) 23) (w.heap.size + 1) (by simp) (.int .i64 bx) (.int .i64 b2) 23) (w.heap.size + 1 + 1) (by simp) (.int .i64 cx) (.int .i64 cy) 23) (w.heap.size + 1 + 1 + 1) (by simp) (.int .i64 dx) (.int .i64 dy) 23
  go_enter Try.func3, Try.ntmps3
  go_wp2_with (first | (go_at_call 6; refine (up_any _).mono ?_; rintro e w1 ⟨rfl, hb1⟩; have K1 := Kp.keep8 hb1 (by assumption); clear hb1) | (go_at_call 7; refine (refMay_any _ _ _).mono ?_; rintro e w1 ⟨rfl, hb1⟩; have K1 := Kp.keep8 hb1 (by assumption); clear hb1) | (go_at_call 8; refine (may_any _ _ _).mono ?_; rintro e w1 ⟨rfl, hb1⟩; have K1 := Kp.keep8 hb1 (by assumption); clear hb1))
  go_ret
  exact ⟨rfl, Kp.end8 (by assumption)⟩

set_option maxHeartbeats 1000000 in
theorem tells_no2 (ax ay bx b2 cx cy dx dy : Int) (w : World) (h1 : mayB ax ay = true) (h2 : mayB bx b2 = false) :
    Calls Try.prog 3 #[.agg #[.int .i64 ax, .int .i64 ay], .agg #[.int .i64 bx, .int .i64 b2], .agg #[.int .i64 cx, .int .i64 cy], .agg #[.int .i64 dx, .int .i64 dy]] w fun e w' => e = .returned (.bool true) ∧ Below w.heap.size w w' := by
  have L := Kp.add6 (Kp.add4 (Kp.add2 (Kp.add0 ⟨Nat.le_refl _, Below.refl w.heap.size w⟩ w.heap.size rfl (.int .i64 ax) (.int .i64 ay) 23) (w.heap.size + 1) (by simp) (.int .i64 bx) (.int .i64 b2) 23) (w.heap.size + 1 + 1) (by simp) (.int .i64 cx) (.int .i64 cy) 23) (w.heap.size + 1 + 1 + 1) (by simp) (.int .i64 dx) (.int .i64 dy) 23
  go_enter Try.func3, Try.ntmps3
  go_wp2_with (first | (go_at_call 6; refine (up_any _).mono ?_; rintro e w1 ⟨rfl, hb1⟩; have K1 := Kp.keep8 hb1 (by assumption); clear hb1) | (go_at_call 7; refine (refMay_any _ _ _).mono ?_; rintro e w1 ⟨rfl, hb1⟩; have K1 := Kp.keep8 hb1 (by assumption); clear hb1) | (go_at_call 8; refine (may_any _ _ _).mono ?_; rintro e w1 ⟨rfl, hb1⟩; have K1 := Kp.keep8 hb1 (by assumption); clear hb1))
  go_ret
  exact ⟨rfl, Kp.end8 (by assumption)⟩

set_option maxHeartbeats 1000000 in
theorem tells_no3 (ax ay bx b2 cx cy dx dy : Int) (w : World) (h1 : mayB ax ay = true) (h2 : mayB bx b2 = true) (h3 : mayB cx cy = false) :
    Calls Try.prog 3 #[.agg #[.int .i64 ax, .int .i64 ay], .agg #[.int .i64 bx, .int .i64 b2], .agg #[.int .i64 cx, .int .i64 cy], .agg #[.int .i64 dx, .int .i64 dy]] w fun e w' => e = .returned (.bool true) ∧ Below w.heap.size w w' := by
  have L := Kp.add6 (Kp.add4 (Kp.add2 (Kp.add0 ⟨Nat.le_refl _, Below.refl w.heap.size w⟩ w.heap.size rfl (.int .i64 ax) (.int .i64 ay) 23) (w.heap.size + 1) (by simp) (.int .i64 bx) (.int .i64 b2) 23) (w.heap.size + 1 + 1) (by simp) (.int .i64 cx) (.int .i64 cy) 23) (w.heap.size + 1 + 1 + 1) (by simp) (.int .i64 dx) (.int .i64 dy) 23
  go_enter Try.func3, Try.ntmps3
  go_wp2_with (first | (go_at_call 6; refine (up_any _).mono ?_; rintro e w1 ⟨rfl, hb1⟩; have K1 := Kp.keep8 hb1 (by assumption); clear hb1) | (go_at_call 7; refine (refMay_any _ _ _).mono ?_; rintro e w1 ⟨rfl, hb1⟩; have K1 := Kp.keep8 hb1 (by assumption); clear hb1) | (go_at_call 8; refine (may_any _ _ _).mono ?_; rintro e w1 ⟨rfl, hb1⟩; have K1 := Kp.keep8 hb1 (by assumption); clear hb1))
  go_ret
  exact ⟨rfl, Kp.end8 (by assumption)⟩

set_option maxHeartbeats 1000000 in
theorem tells_no4 (ax ay bx b2 cx cy dx dy : Int) (w : World) (h1 : mayB ax ay = true) (h2 : mayB bx b2 = true) (h3 : mayB cx cy = true) (h4 : mayB dx dy = false) :
    Calls Try.prog 3 #[.agg #[.int .i64 ax, .int .i64 ay], .agg #[.int .i64 bx, .int .i64 b2], .agg #[.int .i64 cx, .int .i64 cy], .agg #[.int .i64 dx, .int .i64 dy]] w fun e w' => e = .returned (.bool true) ∧ Below w.heap.size w w' := by
  have L := Kp.add6 (Kp.add4 (Kp.add2 (Kp.add0 ⟨Nat.le_refl _, Below.refl w.heap.size w⟩ w.heap.size rfl (.int .i64 ax) (.int .i64 ay) 23) (w.heap.size + 1) (by simp) (.int .i64 bx) (.int .i64 b2) 23) (w.heap.size + 1 + 1) (by simp) (.int .i64 cx) (.int .i64 cy) 23) (w.heap.size + 1 + 1 + 1) (by simp) (.int .i64 dx) (.int .i64 dy) 23
  go_enter Try.func3, Try.ntmps3
  go_wp2_with (first | (go_at_call 6; refine (up_any _).mono ?_; rintro e w1 ⟨rfl, hb1⟩; have K1 := Kp.keep8 hb1 (by assumption); clear hb1) | (go_at_call 7; refine (refMay_any _ _ _).mono ?_; rintro e w1 ⟨rfl, hb1⟩; have K1 := Kp.keep8 hb1 (by assumption); clear hb1) | (go_at_call 8; refine (may_any _ _ _).mono ?_; rintro e w1 ⟨rfl, hb1⟩; have K1 := Kp.keep8 hb1 (by assumption); clear hb1))
  go_ret
  exact ⟨rfl, Kp.end8 (by assumption)⟩

set_option maxHeartbeats 2000000 in
set_option maxRecDepth 100000 in
theorem tells_yes (ax ay bx b2 cx cy dx dy : Int) (w : World) (h1 : mayB ax ay = true) (h2 : mayB bx b2 = true) (h3 : mayB cx cy = true) (h4 : mayB dx dy = true) :
    Calls Try.prog 3 #[.agg #[.int .i64 ax, .int .i64 ay], .agg #[.int .i64 bx, .int .i64 b2], .agg #[.int .i64 cx, .int .i64 cy], .agg #[.int .i64 dx, .int .i64 dy]] w fun e w' => e = .returned (.bool true) ∧ Below w.heap.size w w' := by
  have L := Kp.add6 (Kp.add4 (Kp.add2 (Kp.add0 ⟨Nat.le_refl _, Below.refl w.heap.size w⟩ w.heap.size rfl (.int .i64 ax) (.int .i64 ay) 23) (w.heap.size + 1) (by simp) (.int .i64 bx) (.int .i64 b2) 23) (w.heap.size + 1 + 1) (by simp) (.int .i64 cx) (.int .i64 cy) 23) (w.heap.size + 1 + 1 + 1) (by simp) (.int .i64 dx) (.int .i64 dy) 23
  go_enter Try.func3, Try.ntmps3
  go_wp2_with (first | (go_at_call 6; refine (up_any _).mono ?_; rintro e w1 ⟨rfl, hb1⟩; have K1 := Kp.keep8 hb1 (by assumption); clear hb1) | (go_at_call 7; refine (refMay_any _ _ _).mono ?_; rintro e w1 ⟨rfl, hb1⟩; have K1 := Kp.keep8 hb1 (by assumption); clear hb1) | (go_at_call 8; refine (may_any _ _ _).mono ?_; rintro e w1 ⟨rfl, hb1⟩; have K1 := Kp.keep8 hb1 (by assumption); clear hb1))
  go_region_held3 (fun W => W.cell? ⟨w.heap.size, 0, none⟩ = some (.int .i64 ax) ∧ W.cell? ⟨w.heap.size, 1, none⟩ = some (.int .i64 ay) ∧ W.cell? ⟨w.heap.size + 1, 0, none⟩ = some (.int .i64 bx) ∧ W.cell? ⟨w.heap.size + 1, 1, none⟩ = some (.int .i64 b2) ∧ W.cell? ⟨w.heap.size + 1 + 1, 0, none⟩ = some (.int .i64 cx) ∧ W.cell? ⟨w.heap.size + 1 + 1, 1, none⟩ = some (.int .i64 cy) ∧ W.cell? ⟨w.heap.size + 1 + 1 + 1, 0, none⟩ = some (.int .i64 dx) ∧ W.cell? ⟨w.heap.size + 1 + 1 + 1, 1, none⟩ = some (.int .i64 dy) ∧ w.heap.size ≤ W.heap.size ∧ Below w.heap.size w W)
    (first | exact Kp.drew8 (by assumption) | exact Kp.keep8 (by assumption) (by assumption))
    (first | (go_at_call 9; refine (turn_any _ _ _ _ _ _ _ (by assumption) (by assumption) (by assumption)).mono ?_; rintro e w1 ⟨rfl, hb1⟩) | (go_at_call 10; refine (refTurn_any _ _ _ _ _ _ _ (by assumption) (by assumption) (by assumption)).mono ?_; rintro e w1 ⟨rfl, hb1⟩) | (go_at_call 11; refine (on_any _ _ _ _ _ _ _ (by assumption) (by assumption) (by assumption)).mono ?_; rintro e w1 ⟨rfl, hb1⟩) | (go_at_call 12; refine (refOn_any _ _ _ _ _ _ _ (by assumption) (by assumption) (by assumption)).mono ?_; rintro e w1 ⟨rfl, hb1⟩) | (go_at_call 13; refine (cross_any _ _ _ _ _ _ _ _ _ (by assumption) (by assumption) (by assumption) (by assumption)).mono ?_; rintro e w1 ⟨rfl, hb1⟩) | (go_at_call 14; refine (refCross_same _ _ _ _ _ _ _ _ _ (by assumption) (by assumption) (by assumption) (by assumption)).mono ?_; rintro e w1 ⟨rfl, hb1⟩))
  go_wp2_with fail
  go_ret
  exact ⟨rfl, Kp.end8 (by assumption)⟩

theorem tells_any (ax ay bx b2 cx cy dx dy : Int) (w : World)  :
    Calls Try.prog 3 #[.agg #[.int .i64 ax, .int .i64 ay], .agg #[.int .i64 bx, .int .i64 b2], .agg #[.int .i64 cx, .int .i64 cy], .agg #[.int .i64 dx, .int .i64 dy]] w fun e w' => e = .returned (.bool true) ∧ Below w.heap.size w w' := by
  cases h1 : mayB ax ay
  · exact tells_no1 ax ay bx b2 cx cy dx dy w h1
  cases h2 : mayB bx b2
  · exact tells_no2 ax ay bx b2 cx cy dx dy w h1 h2
  cases h3 : mayB cx cy
  · exact tells_no3 ax ay bx b2 cx cy dx dy w h1 h2 h3
  cases h4 : mayB dx dy
  · exact tells_no4 ax ay bx b2 cx cy dx dy w h1 h2 h3 h4
  exact tells_yes ax ay bx b2 cx cy dx dy w h1 h2 h3 h4
end Go.Proofs.Ytjdeoneefgoaaaa.Pt
