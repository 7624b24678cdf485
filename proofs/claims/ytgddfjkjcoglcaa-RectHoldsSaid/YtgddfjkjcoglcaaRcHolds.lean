/-
  The walk of the statement RectHolds: whatever two rectangles and point it is given, it returns true, and memory that was there is left as it was.
-/
import Derived.Test.YtgddfjkjcoglcaaRcUp
namespace Go.Proofs.Ytgddfjkjcoglcaa.Rc
open Go.RowKit Go.Proofs.Ytgddfjkjcoglcaa.Pt

theorem join_back (ax1 ay1 ax2 ay2 bx1 by1 bx2 by2 : Int) (w : World) : Calls Try.prog 13 #[.agg #[.int .i64 bx1, .int .i64 by1, .int .i64 bx2, .int .i64 by2], .agg #[.int .i64 ax1, .int .i64 ay1, .int .i64 ax2, .int .i64 ay2]] w fun e w' => e = .returned (.agg #[.int .i64 (mn ax1 bx1), .int .i64 (mn ay1 by1), .int .i64 (mx ax2 bx2), .int .i64 (mx ay2 by2)]) ∧ Below w.heap.size w w' := by
  rw [mn_comm ax1, mn_comm ay1, mx_comm ax2, mx_comm ay2]
  exact join_any bx1 by1 bx2 by2 ax1 ay1 ax2 ay2 w

set_option maxHeartbeats 1000000 in
theorem holds_no1 (ax1 ay1 ax2 ay2 bx1 by1 bx2 by2 px py : Int) (w : World) (h1 : rmayB ax1 ay1 ax2 ay2 = false) :
    Calls Try.prog 5 #[.agg #[.int .i64 ax1, .int .i64 ay1, .int .i64 ax2, .int .i64 ay2], .agg #[.int .i64 bx1, .int .i64 by1, .int .i64 bx2, .int .i64 by2], .agg #[.int .i64 px, .int .i64 py]] w fun e w' => e = .returned (.bool true) ∧ Below w.heap.size w w' := by
  have L := Kp.add8 (Kp.adq4 (Kp.adq0 ⟨Nat.le_refl _, Below.refl w.heap.size w⟩ w.heap.size rfl (.int .i64 ax1) (.int .i64 ay1) (.int .i64 ax2) (.int .i64 ay2) 23) (w.heap.size + 1) (by simp) (.int .i64 bx1) (.int .i64 by1) (.int .i64 bx2) (.int .i64 by2) 23) (w.heap.size + 1 + 1) (by simp) (.int .i64 px) (.int .i64 py) 25
  go_enter Try.func5, Try.ntmps5
  go_wp2_with (first | (go_at_call 6; refine (up_any _).mono ?_; rintro e w1 ⟨rfl, hb1⟩; have K1 := Kp.keep10 hb1 (by assumption); clear hb1) | (go_at_call 9; refine (rmay_any _ _ _ _ _).mono ?_; rintro e w1 ⟨rfl, hb1⟩; have K1 := Kp.keep10 hb1 (by assumption); clear hb1))
  go_ret
  exact ⟨rfl, Kp.end10 (by assumption)⟩

set_option maxHeartbeats 1000000 in
theorem holds_no2 (ax1 ay1 ax2 ay2 bx1 by1 bx2 by2 px py : Int) (w : World) (h1 : rmayB ax1 ay1 ax2 ay2 = true) (h2 : rmayB bx1 by1 bx2 by2 = false) :
    Calls Try.prog 5 #[.agg #[.int .i64 ax1, .int .i64 ay1, .int .i64 ax2, .int .i64 ay2], .agg #[.int .i64 bx1, .int .i64 by1, .int .i64 bx2, .int .i64 by2], .agg #[.int .i64 px, .int .i64 py]] w fun e w' => e = .returned (.bool true) ∧ Below w.heap.size w w' := by
  have L := Kp.add8 (Kp.adq4 (Kp.adq0 ⟨Nat.le_refl _, Below.refl w.heap.size w⟩ w.heap.size rfl (.int .i64 ax1) (.int .i64 ay1) (.int .i64 ax2) (.int .i64 ay2) 23) (w.heap.size + 1) (by simp) (.int .i64 bx1) (.int .i64 by1) (.int .i64 bx2) (.int .i64 by2) 23) (w.heap.size + 1 + 1) (by simp) (.int .i64 px) (.int .i64 py) 25
  go_enter Try.func5, Try.ntmps5
  go_wp2_with (first | (go_at_call 6; refine (up_any _).mono ?_; rintro e w1 ⟨rfl, hb1⟩; have K1 := Kp.keep10 hb1 (by assumption); clear hb1) | (go_at_call 9; refine (rmay_any _ _ _ _ _).mono ?_; rintro e w1 ⟨rfl, hb1⟩; have K1 := Kp.keep10 hb1 (by assumption); clear hb1))
  go_ret
  exact ⟨rfl, Kp.end10 (by assumption)⟩

set_option maxHeartbeats 4000000 in
set_option maxRecDepth 100000 in
theorem holds_yes0 (ax1 ay1 ax2 ay2 bx1 by1 bx2 by2 px py : Int) (w : World) (h1 : rmayB ax1 ay1 ax2 ay2 = true) (h2 : rmayB bx1 by1 bx2 by2 = true) (ho : ordB (mx ax1 bx1) (mx ay1 by1) (mn ax2 bx2) (mn ay2 by2) = true) (g0 : inB ax1 ay1 ax2 ay2 px py = false) (g1 : inB (mx ax1 bx1) (mx ay1 by1) (mn ax2 bx2) (mn ay2 by2) px py = false) :
    Calls Try.prog 5 #[.agg #[.int .i64 ax1, .int .i64 ay1, .int .i64 ax2, .int .i64 ay2], .agg #[.int .i64 bx1, .int .i64 by1, .int .i64 bx2, .int .i64 by2], .agg #[.int .i64 px, .int .i64 py]] w fun e w' => e = .returned (.bool true) ∧ Below w.heap.size w w' := by
  have L := Kp.add8 (Kp.adq4 (Kp.adq0 ⟨Nat.le_refl _, Below.refl w.heap.size w⟩ w.heap.size rfl (.int .i64 ax1) (.int .i64 ay1) (.int .i64 ax2) (.int .i64 ay2) 23) (w.heap.size + 1) (by simp) (.int .i64 bx1) (.int .i64 by1) (.int .i64 bx2) (.int .i64 by2) 23) (w.heap.size + 1 + 1) (by simp) (.int .i64 px) (.int .i64 py) 25
  have hj := join_may h1 h2
  have q1 := join_holds1 h1 h2
  have q2 := join_holds2 h1 h2
  have q3 := join_grows h1 h2
  have q4 : decide (areaI (mn ax1 bx1) (mn ay1 by1) (mx ax2 bx2) (mx ay2 by2) - areaI ax1 ay1 ax2 ay2 < 0) = false := by simp; omega
  have s1 := meet_held1 h1 h2 ho
  have s2 := meet_held2 h1 h2 ho
  have s3 := meet_may h1 h2 ho
  have C1 := Lib.hid (fun W => meet_yes ax1 ay1 ax2 ay2 bx1 by1 bx2 by2 W ho)
  clear q3
  go_enter Try.func5, Try.ntmps5
  go_wp2_with (first | (go_at_call 6; refine (up_any _).mono ?_; rintro e w1 ⟨rfl, hb1⟩; have K1 := Kp.keep10 hb1 (by assumption); clear hb1) | (go_at_call 9; refine (rmay_any _ _ _ _ _).mono ?_; rintro e w1 ⟨rfl, hb1⟩; have K1 := Kp.keep10 hb1 (by assumption); clear hb1))
  refine (join_any _ _ _ _ _ _ _ _ _).mono ?_
  rintro e w4 ⟨rfl, hb4⟩
  have K4 := Kp.adq10 (Kp.keep10 hb4 (by assumption)) w4.heap.size rfl (.int .i64 (mn ax1 bx1)) (.int .i64 (mn ay1 by1)) (.int .i64 (mx ax2 bx2)) (.int .i64 (mx ay2 by2)) 23
  clear hb4
  go_wp2_with fail
  refine (C1.out _).mono ?_
  rintro e w5 ⟨rfl, hb5⟩
  have K5 := Kp.adq14 (Kp.keep14 hb5 K4) w5.heap.size rfl (.int .i64 (mx ax1 bx1)) (.int .i64 (mx ay1 by1)) (.int .i64 (mn ax2 bx2)) (.int .i64 (mn ay2 by2)) 23
  clear hb5
  go_wp2_with fail
  go_region_held3 (fun W => W.cell? ⟨w.heap.size, 0, none⟩ = some (.int .i64 ax1) ∧ W.cell? ⟨w.heap.size, 1, none⟩ = some (.int .i64 ay1) ∧ W.cell? ⟨w.heap.size, 2, none⟩ = some (.int .i64 ax2) ∧ W.cell? ⟨w.heap.size, 3, none⟩ = some (.int .i64 ay2) ∧ W.cell? ⟨w.heap.size + 1, 0, none⟩ = some (.int .i64 bx1) ∧ W.cell? ⟨w.heap.size + 1, 1, none⟩ = some (.int .i64 by1) ∧ W.cell? ⟨w.heap.size + 1, 2, none⟩ = some (.int .i64 bx2) ∧ W.cell? ⟨w.heap.size + 1, 3, none⟩ = some (.int .i64 by2) ∧ W.cell? ⟨w.heap.size + 1 + 1, 0, none⟩ = some (.int .i64 px) ∧ W.cell? ⟨w.heap.size + 1 + 1, 1, none⟩ = some (.int .i64 py) ∧ W.cell? ⟨w4.heap.size, 0, none⟩ = some (.int .i64 (mn ax1 bx1)) ∧ W.cell? ⟨w4.heap.size, 1, none⟩ = some (.int .i64 (mn ay1 by1)) ∧ W.cell? ⟨w4.heap.size, 2, none⟩ = some (.int .i64 (mx ax2 bx2)) ∧ W.cell? ⟨w4.heap.size, 3, none⟩ = some (.int .i64 (mx ay2 by2)) ∧ W.cell? ⟨w5.heap.size, 0, none⟩ = some (.int .i64 (mx ax1 bx1)) ∧ W.cell? ⟨w5.heap.size, 1, none⟩ = some (.int .i64 (mx ay1 by1)) ∧ W.cell? ⟨w5.heap.size, 2, none⟩ = some (.int .i64 (mn ax2 bx2)) ∧ W.cell? ⟨w5.heap.size, 3, none⟩ = some (.int .i64 (mn ay2 by2)) ∧ w.heap.size ≤ W.heap.size ∧ Below w.heap.size w W)
    (first | exact Kp.drew18 (by assumption) | exact Kp.keep18 (by assumption) (by assumption))
    (first | (go_at_call 16; refine (holds_any _ _ _ _ _ _ _ _ _).mono ?_; rintro e w1 ⟨rfl, hb1⟩) | (go_at_call 21; refine (grow_any _ _ _ _ _ _ _ _ _ (by assumption) (by assumption)).mono ?_; rintro e w1 ⟨rfl, hb1⟩) | (go_at_call 9; refine (rmay_any _ _ _ _ _).mono ?_; rintro e w1 ⟨rfl, hb1⟩) | (go_at_call 13; refine (join_back ax1 ay1 ax2 ay2 bx1 by1 bx2 by2 _).mono ?_; rintro e w1 ⟨rfl, hb1⟩))
  go_wp2_with (first | (go_at_call 16; refine (holds_any _ _ _ _ _ _ _ _ _).mono ?_; rintro e w1 ⟨rfl, hb1⟩; have K1 := Kp.keep18 hb1 (by assumption); clear hb1) | (go_at_call 9; refine (rmay_any _ _ _ _ _).mono ?_; rintro e w1 ⟨rfl, hb1⟩; have K1 := Kp.keep18 hb1 (by assumption); clear hb1) | (go_at_call 14; refine (in_any _ _ _ _ _ _ _).mono ?_; rintro e w1 ⟨rfl, hb1⟩; have K1 := Kp.keep18 hb1 (by assumption); clear hb1))
  go_ret
  exact ⟨rfl, Kp.end18 (by assumption)⟩

set_option maxHeartbeats 4000000 in
set_option maxRecDepth 100000 in
theorem holds_yes1 (ax1 ay1 ax2 ay2 bx1 by1 bx2 by2 px py : Int) (w : World) (h1 : rmayB ax1 ay1 ax2 ay2 = true) (h2 : rmayB bx1 by1 bx2 by2 = true) (ho : ordB (mx ax1 bx1) (mx ay1 by1) (mn ax2 bx2) (mn ay2 by2) = true) (g0 : inB ax1 ay1 ax2 ay2 px py = true) (g1 : inB bx1 by1 bx2 by2 px py = false) (g2 : inB (mx ax1 bx1) (mx ay1 by1) (mn ax2 bx2) (mn ay2 by2) px py = false) :
    Calls Try.prog 5 #[.agg #[.int .i64 ax1, .int .i64 ay1, .int .i64 ax2, .int .i64 ay2], .agg #[.int .i64 bx1, .int .i64 by1, .int .i64 bx2, .int .i64 by2], .agg #[.int .i64 px, .int .i64 py]] w fun e w' => e = .returned (.bool true) ∧ Below w.heap.size w w' := by
  have L := Kp.add8 (Kp.adq4 (Kp.adq0 ⟨Nat.le_refl _, Below.refl w.heap.size w⟩ w.heap.size rfl (.int .i64 ax1) (.int .i64 ay1) (.int .i64 ax2) (.int .i64 ay2) 23) (w.heap.size + 1) (by simp) (.int .i64 bx1) (.int .i64 by1) (.int .i64 bx2) (.int .i64 by2) 23) (w.heap.size + 1 + 1) (by simp) (.int .i64 px) (.int .i64 py) 25
  have hj := join_may h1 h2
  have q1 := join_holds1 h1 h2
  have q2 := join_holds2 h1 h2
  have q3 := join_grows h1 h2
  have q4 : decide (areaI (mn ax1 bx1) (mn ay1 by1) (mx ax2 bx2) (mx ay2 by2) - areaI ax1 ay1 ax2 ay2 < 0) = false := by simp; omega
  have s1 := meet_held1 h1 h2 ho
  have s2 := meet_held2 h1 h2 ho
  have s3 := meet_may h1 h2 ho
  have C1 := Lib.hid (fun W => meet_yes ax1 ay1 ax2 ay2 bx1 by1 bx2 by2 W ho)
  clear q3
  go_enter Try.func5, Try.ntmps5
  go_wp2_with (first | (go_at_call 6; refine (up_any _).mono ?_; rintro e w1 ⟨rfl, hb1⟩; have K1 := Kp.keep10 hb1 (by assumption); clear hb1) | (go_at_call 9; refine (rmay_any _ _ _ _ _).mono ?_; rintro e w1 ⟨rfl, hb1⟩; have K1 := Kp.keep10 hb1 (by assumption); clear hb1))
  refine (join_any _ _ _ _ _ _ _ _ _).mono ?_
  rintro e w4 ⟨rfl, hb4⟩
  have K4 := Kp.adq10 (Kp.keep10 hb4 (by assumption)) w4.heap.size rfl (.int .i64 (mn ax1 bx1)) (.int .i64 (mn ay1 by1)) (.int .i64 (mx ax2 bx2)) (.int .i64 (mx ay2 by2)) 23
  clear hb4
  go_wp2_with fail
  refine (C1.out _).mono ?_
  rintro e w5 ⟨rfl, hb5⟩
  have K5 := Kp.adq14 (Kp.keep14 hb5 K4) w5.heap.size rfl (.int .i64 (mx ax1 bx1)) (.int .i64 (mx ay1 by1)) (.int .i64 (mn ax2 bx2)) (.int .i64 (mn ay2 by2)) 23
  clear hb5
  go_wp2_with fail
  go_region_held3 (fun W => W.cell? ⟨w.heap.size, 0, none⟩ = some (.int .i64 ax1) ∧ W.cell? ⟨w.heap.size, 1, none⟩ = some (.int .i64 ay1) ∧ W.cell? ⟨w.heap.size, 2, none⟩ = some (.int .i64 ax2) ∧ W.cell? ⟨w.heap.size, 3, none⟩ = some (.int .i64 ay2) ∧ W.cell? ⟨w.heap.size + 1, 0, none⟩ = some (.int .i64 bx1) ∧ W.cell? ⟨w.heap.size + 1, 1, none⟩ = some (.int .i64 by1) ∧ W.cell? ⟨w.heap.size + 1, 2, none⟩ = some (.int .i64 bx2) ∧ W.cell? ⟨w.heap.size + 1, 3, none⟩ = some (.int .i64 by2) ∧ W.cell? ⟨w.heap.size + 1 + 1, 0, none⟩ = some (.int .i64 px) ∧ W.cell? ⟨w.heap.size + 1 + 1, 1, none⟩ = some (.int .i64 py) ∧ W.cell? ⟨w4.heap.size, 0, none⟩ = some (.int .i64 (mn ax1 bx1)) ∧ W.cell? ⟨w4.heap.size, 1, none⟩ = some (.int .i64 (mn ay1 by1)) ∧ W.cell? ⟨w4.heap.size, 2, none⟩ = some (.int .i64 (mx ax2 bx2)) ∧ W.cell? ⟨w4.heap.size, 3, none⟩ = some (.int .i64 (mx ay2 by2)) ∧ W.cell? ⟨w5.heap.size, 0, none⟩ = some (.int .i64 (mx ax1 bx1)) ∧ W.cell? ⟨w5.heap.size, 1, none⟩ = some (.int .i64 (mx ay1 by1)) ∧ W.cell? ⟨w5.heap.size, 2, none⟩ = some (.int .i64 (mn ax2 bx2)) ∧ W.cell? ⟨w5.heap.size, 3, none⟩ = some (.int .i64 (mn ay2 by2)) ∧ w.heap.size ≤ W.heap.size ∧ Below w.heap.size w W)
    (first | exact Kp.drew18 (by assumption) | exact Kp.keep18 (by assumption) (by assumption))
    (first | (go_at_call 16; refine (holds_any _ _ _ _ _ _ _ _ _).mono ?_; rintro e w1 ⟨rfl, hb1⟩) | (go_at_call 21; refine (grow_any _ _ _ _ _ _ _ _ _ (by assumption) (by assumption)).mono ?_; rintro e w1 ⟨rfl, hb1⟩) | (go_at_call 9; refine (rmay_any _ _ _ _ _).mono ?_; rintro e w1 ⟨rfl, hb1⟩) | (go_at_call 13; refine (join_back ax1 ay1 ax2 ay2 bx1 by1 bx2 by2 _).mono ?_; rintro e w1 ⟨rfl, hb1⟩))
  go_wp2_with (first | (go_at_call 16; refine (holds_any _ _ _ _ _ _ _ _ _).mono ?_; rintro e w1 ⟨rfl, hb1⟩; have K1 := Kp.keep18 hb1 (by assumption); clear hb1) | (go_at_call 9; refine (rmay_any _ _ _ _ _).mono ?_; rintro e w1 ⟨rfl, hb1⟩; have K1 := Kp.keep18 hb1 (by assumption); clear hb1) | (go_at_call 14; refine (in_any _ _ _ _ _ _ _).mono ?_; rintro e w1 ⟨rfl, hb1⟩; have K1 := Kp.keep18 hb1 (by assumption); clear hb1))
  go_ret
  exact ⟨rfl, Kp.end18 (by assumption)⟩

set_option maxHeartbeats 4000000 in
set_option maxRecDepth 100000 in
theorem holds_yes2 (ax1 ay1 ax2 ay2 bx1 by1 bx2 by2 px py : Int) (w : World) (h1 : rmayB ax1 ay1 ax2 ay2 = true) (h2 : rmayB bx1 by1 bx2 by2 = true) (ho : ordB (mx ax1 bx1) (mx ay1 by1) (mn ax2 bx2) (mn ay2 by2) = true) (g0 : inB ax1 ay1 ax2 ay2 px py = true) (g1 : inB bx1 by1 bx2 by2 px py = true) (g2 : inB (mx ax1 bx1) (mx ay1 by1) (mn ax2 bx2) (mn ay2 by2) px py = true) (g3 : inB (mn ax1 bx1) (mn ay1 by1) (mx ax2 bx2) (mx ay2 by2) px py = true) :
    Calls Try.prog 5 #[.agg #[.int .i64 ax1, .int .i64 ay1, .int .i64 ax2, .int .i64 ay2], .agg #[.int .i64 bx1, .int .i64 by1, .int .i64 bx2, .int .i64 by2], .agg #[.int .i64 px, .int .i64 py]] w fun e w' => e = .returned (.bool true) ∧ Below w.heap.size w w' := by
  have L := Kp.add8 (Kp.adq4 (Kp.adq0 ⟨Nat.le_refl _, Below.refl w.heap.size w⟩ w.heap.size rfl (.int .i64 ax1) (.int .i64 ay1) (.int .i64 ax2) (.int .i64 ay2) 23) (w.heap.size + 1) (by simp) (.int .i64 bx1) (.int .i64 by1) (.int .i64 bx2) (.int .i64 by2) 23) (w.heap.size + 1 + 1) (by simp) (.int .i64 px) (.int .i64 py) 25
  have hj := join_may h1 h2
  have q1 := join_holds1 h1 h2
  have q2 := join_holds2 h1 h2
  have q3 := join_grows h1 h2
  have q4 : decide (areaI (mn ax1 bx1) (mn ay1 by1) (mx ax2 bx2) (mx ay2 by2) - areaI ax1 ay1 ax2 ay2 < 0) = false := by simp; omega
  have s1 := meet_held1 h1 h2 ho
  have s2 := meet_held2 h1 h2 ho
  have s3 := meet_may h1 h2 ho
  have C1 := Lib.hid (fun W => meet_yes ax1 ay1 ax2 ay2 bx1 by1 bx2 by2 W ho)
  clear q3
  go_enter Try.func5, Try.ntmps5
  go_wp2_with (first | (go_at_call 6; refine (up_any _).mono ?_; rintro e w1 ⟨rfl, hb1⟩; have K1 := Kp.keep10 hb1 (by assumption); clear hb1) | (go_at_call 9; refine (rmay_any _ _ _ _ _).mono ?_; rintro e w1 ⟨rfl, hb1⟩; have K1 := Kp.keep10 hb1 (by assumption); clear hb1))
  refine (join_any _ _ _ _ _ _ _ _ _).mono ?_
  rintro e w4 ⟨rfl, hb4⟩
  have K4 := Kp.adq10 (Kp.keep10 hb4 (by assumption)) w4.heap.size rfl (.int .i64 (mn ax1 bx1)) (.int .i64 (mn ay1 by1)) (.int .i64 (mx ax2 bx2)) (.int .i64 (mx ay2 by2)) 23
  clear hb4
  go_wp2_with fail
  refine (C1.out _).mono ?_
  rintro e w5 ⟨rfl, hb5⟩
  have K5 := Kp.adq14 (Kp.keep14 hb5 K4) w5.heap.size rfl (.int .i64 (mx ax1 bx1)) (.int .i64 (mx ay1 by1)) (.int .i64 (mn ax2 bx2)) (.int .i64 (mn ay2 by2)) 23
  clear hb5
  go_wp2_with fail
  go_region_held3 (fun W => W.cell? ⟨w.heap.size, 0, none⟩ = some (.int .i64 ax1) ∧ W.cell? ⟨w.heap.size, 1, none⟩ = some (.int .i64 ay1) ∧ W.cell? ⟨w.heap.size, 2, none⟩ = some (.int .i64 ax2) ∧ W.cell? ⟨w.heap.size, 3, none⟩ = some (.int .i64 ay2) ∧ W.cell? ⟨w.heap.size + 1, 0, none⟩ = some (.int .i64 bx1) ∧ W.cell? ⟨w.heap.size + 1, 1, none⟩ = some (.int .i64 by1) ∧ W.cell? ⟨w.heap.size + 1, 2, none⟩ = some (.int .i64 bx2) ∧ W.cell? ⟨w.heap.size + 1, 3, none⟩ = some (.int .i64 by2) ∧ W.cell? ⟨w.heap.size + 1 + 1, 0, none⟩ = some (.int .i64 px) ∧ W.cell? ⟨w.heap.size + 1 + 1, 1, none⟩ = some (.int .i64 py) ∧ W.cell? ⟨w4.heap.size, 0, none⟩ = some (.int .i64 (mn ax1 bx1)) ∧ W.cell? ⟨w4.heap.size, 1, none⟩ = some (.int .i64 (mn ay1 by1)) ∧ W.cell? ⟨w4.heap.size, 2, none⟩ = some (.int .i64 (mx ax2 bx2)) ∧ W.cell? ⟨w4.heap.size, 3, none⟩ = some (.int .i64 (mx ay2 by2)) ∧ W.cell? ⟨w5.heap.size, 0, none⟩ = some (.int .i64 (mx ax1 bx1)) ∧ W.cell? ⟨w5.heap.size, 1, none⟩ = some (.int .i64 (mx ay1 by1)) ∧ W.cell? ⟨w5.heap.size, 2, none⟩ = some (.int .i64 (mn ax2 bx2)) ∧ W.cell? ⟨w5.heap.size, 3, none⟩ = some (.int .i64 (mn ay2 by2)) ∧ w.heap.size ≤ W.heap.size ∧ Below w.heap.size w W)
    (first | exact Kp.drew18 (by assumption) | exact Kp.keep18 (by assumption) (by assumption))
    (first | (go_at_call 16; refine (holds_any _ _ _ _ _ _ _ _ _).mono ?_; rintro e w1 ⟨rfl, hb1⟩) | (go_at_call 21; refine (grow_any _ _ _ _ _ _ _ _ _ (by assumption) (by assumption)).mono ?_; rintro e w1 ⟨rfl, hb1⟩) | (go_at_call 9; refine (rmay_any _ _ _ _ _).mono ?_; rintro e w1 ⟨rfl, hb1⟩) | (go_at_call 13; refine (join_back ax1 ay1 ax2 ay2 bx1 by1 bx2 by2 _).mono ?_; rintro e w1 ⟨rfl, hb1⟩))
  go_wp2_with (first | (go_at_call 16; refine (holds_any _ _ _ _ _ _ _ _ _).mono ?_; rintro e w1 ⟨rfl, hb1⟩; have K1 := Kp.keep18 hb1 (by assumption); clear hb1) | (go_at_call 9; refine (rmay_any _ _ _ _ _).mono ?_; rintro e w1 ⟨rfl, hb1⟩; have K1 := Kp.keep18 hb1 (by assumption); clear hb1) | (go_at_call 14; refine (in_any _ _ _ _ _ _ _).mono ?_; rintro e w1 ⟨rfl, hb1⟩; have K1 := Kp.keep18 hb1 (by assumption); clear hb1))
  go_ret
  exact ⟨rfl, Kp.end18 (by assumption)⟩

set_option maxHeartbeats 4000000 in
set_option maxRecDepth 100000 in
theorem holds_apart0 (ax1 ay1 ax2 ay2 bx1 by1 bx2 by2 px py : Int) (w : World) (h1 : rmayB ax1 ay1 ax2 ay2 = true) (h2 : rmayB bx1 by1 bx2 by2 = true) (ho : ordB (mx ax1 bx1) (mx ay1 by1) (mn ax2 bx2) (mn ay2 by2) = false) (g0 : inB ax1 ay1 ax2 ay2 px py = false) :
    Calls Try.prog 5 #[.agg #[.int .i64 ax1, .int .i64 ay1, .int .i64 ax2, .int .i64 ay2], .agg #[.int .i64 bx1, .int .i64 by1, .int .i64 bx2, .int .i64 by2], .agg #[.int .i64 px, .int .i64 py]] w fun e w' => e = .returned (.bool true) ∧ Below w.heap.size w w' := by
  have L := Kp.add8 (Kp.adq4 (Kp.adq0 ⟨Nat.le_refl _, Below.refl w.heap.size w⟩ w.heap.size rfl (.int .i64 ax1) (.int .i64 ay1) (.int .i64 ax2) (.int .i64 ay2) 23) (w.heap.size + 1) (by simp) (.int .i64 bx1) (.int .i64 by1) (.int .i64 bx2) (.int .i64 by2) 23) (w.heap.size + 1 + 1) (by simp) (.int .i64 px) (.int .i64 py) 25
  have hj := join_may h1 h2
  have q1 := join_holds1 h1 h2
  have q2 := join_holds2 h1 h2
  have q3 := join_grows h1 h2
  have q4 : decide (areaI (mn ax1 bx1) (mn ay1 by1) (mx ax2 bx2) (mx ay2 by2) - areaI ax1 ay1 ax2 ay2 < 0) = false := by simp; omega
  have C1 := Lib.hid (fun W => meet_no ax1 ay1 ax2 ay2 bx1 by1 bx2 by2 W ho)
  clear q3
  go_enter Try.func5, Try.ntmps5
  go_wp2_with (first | (go_at_call 6; refine (up_any _).mono ?_; rintro e w1 ⟨rfl, hb1⟩; have K1 := Kp.keep10 hb1 (by assumption); clear hb1) | (go_at_call 9; refine (rmay_any _ _ _ _ _).mono ?_; rintro e w1 ⟨rfl, hb1⟩; have K1 := Kp.keep10 hb1 (by assumption); clear hb1))
  refine (join_any _ _ _ _ _ _ _ _ _).mono ?_
  rintro e w4 ⟨rfl, hb4⟩
  have K4 := Kp.adq10 (Kp.keep10 hb4 (by assumption)) w4.heap.size rfl (.int .i64 (mn ax1 bx1)) (.int .i64 (mn ay1 by1)) (.int .i64 (mx ax2 bx2)) (.int .i64 (mx ay2 by2)) 23
  clear hb4
  go_wp2_with fail
  refine (C1.out _).mono ?_
  rintro e w5 ⟨rfl, hb5⟩
  have K5 := Kp.adq14 (Kp.keep14 hb5 K4) w5.heap.size rfl (.int .i64 0) (.int .i64 0) (.int .i64 0) (.int .i64 0) 23
  clear hb5
  go_wp2_with fail
  go_region_held3 (fun W => W.cell? ⟨w.heap.size, 0, none⟩ = some (.int .i64 ax1) ∧ W.cell? ⟨w.heap.size, 1, none⟩ = some (.int .i64 ay1) ∧ W.cell? ⟨w.heap.size, 2, none⟩ = some (.int .i64 ax2) ∧ W.cell? ⟨w.heap.size, 3, none⟩ = some (.int .i64 ay2) ∧ W.cell? ⟨w.heap.size + 1, 0, none⟩ = some (.int .i64 bx1) ∧ W.cell? ⟨w.heap.size + 1, 1, none⟩ = some (.int .i64 by1) ∧ W.cell? ⟨w.heap.size + 1, 2, none⟩ = some (.int .i64 bx2) ∧ W.cell? ⟨w.heap.size + 1, 3, none⟩ = some (.int .i64 by2) ∧ W.cell? ⟨w.heap.size + 1 + 1, 0, none⟩ = some (.int .i64 px) ∧ W.cell? ⟨w.heap.size + 1 + 1, 1, none⟩ = some (.int .i64 py) ∧ W.cell? ⟨w4.heap.size, 0, none⟩ = some (.int .i64 (mn ax1 bx1)) ∧ W.cell? ⟨w4.heap.size, 1, none⟩ = some (.int .i64 (mn ay1 by1)) ∧ W.cell? ⟨w4.heap.size, 2, none⟩ = some (.int .i64 (mx ax2 bx2)) ∧ W.cell? ⟨w4.heap.size, 3, none⟩ = some (.int .i64 (mx ay2 by2)) ∧ W.cell? ⟨w5.heap.size, 0, none⟩ = some (.int .i64 0) ∧ W.cell? ⟨w5.heap.size, 1, none⟩ = some (.int .i64 0) ∧ W.cell? ⟨w5.heap.size, 2, none⟩ = some (.int .i64 0) ∧ W.cell? ⟨w5.heap.size, 3, none⟩ = some (.int .i64 0) ∧ w.heap.size ≤ W.heap.size ∧ Below w.heap.size w W)
    (first | exact Kp.drew18 (by assumption) | exact Kp.keep18 (by assumption) (by assumption))
    (first | (go_at_call 16; refine (holds_any _ _ _ _ _ _ _ _ _).mono ?_; rintro e w1 ⟨rfl, hb1⟩) | (go_at_call 21; refine (grow_any _ _ _ _ _ _ _ _ _ (by assumption) (by assumption)).mono ?_; rintro e w1 ⟨rfl, hb1⟩) | (go_at_call 9; refine (rmay_any _ _ _ _ _).mono ?_; rintro e w1 ⟨rfl, hb1⟩) | (go_at_call 13; refine (join_back ax1 ay1 ax2 ay2 bx1 by1 bx2 by2 _).mono ?_; rintro e w1 ⟨rfl, hb1⟩))
  go_wp2_with (first | (go_at_call 16; refine (holds_any _ _ _ _ _ _ _ _ _).mono ?_; rintro e w1 ⟨rfl, hb1⟩; have K1 := Kp.keep18 hb1 (by assumption); clear hb1) | (go_at_call 9; refine (rmay_any _ _ _ _ _).mono ?_; rintro e w1 ⟨rfl, hb1⟩; have K1 := Kp.keep18 hb1 (by assumption); clear hb1) | (go_at_call 14; refine (in_any _ _ _ _ _ _ _).mono ?_; rintro e w1 ⟨rfl, hb1⟩; have K1 := Kp.keep18 hb1 (by assumption); clear hb1))
  go_ret
  exact ⟨rfl, Kp.end18 (by assumption)⟩

set_option maxHeartbeats 4000000 in
set_option maxRecDepth 100000 in
theorem holds_apart1 (ax1 ay1 ax2 ay2 bx1 by1 bx2 by2 px py : Int) (w : World) (h1 : rmayB ax1 ay1 ax2 ay2 = true) (h2 : rmayB bx1 by1 bx2 by2 = true) (ho : ordB (mx ax1 bx1) (mx ay1 by1) (mn ax2 bx2) (mn ay2 by2) = false) (g0 : inB ax1 ay1 ax2 ay2 px py = true) (g1 : inB bx1 by1 bx2 by2 px py = false) :
    Calls Try.prog 5 #[.agg #[.int .i64 ax1, .int .i64 ay1, .int .i64 ax2, .int .i64 ay2], .agg #[.int .i64 bx1, .int .i64 by1, .int .i64 bx2, .int .i64 by2], .agg #[.int .i64 px, .int .i64 py]] w fun e w' => e = .returned (.bool true) ∧ Below w.heap.size w w' := by
  have L := Kp.add8 (Kp.adq4 (Kp.adq0 ⟨Nat.le_refl _, Below.refl w.heap.size w⟩ w.heap.size rfl (.int .i64 ax1) (.int .i64 ay1) (.int .i64 ax2) (.int .i64 ay2) 23) (w.heap.size + 1) (by simp) (.int .i64 bx1) (.int .i64 by1) (.int .i64 bx2) (.int .i64 by2) 23) (w.heap.size + 1 + 1) (by simp) (.int .i64 px) (.int .i64 py) 25
  have hj := join_may h1 h2
  have q1 := join_holds1 h1 h2
  have q2 := join_holds2 h1 h2
  have q3 := join_grows h1 h2
  have q4 : decide (areaI (mn ax1 bx1) (mn ay1 by1) (mx ax2 bx2) (mx ay2 by2) - areaI ax1 ay1 ax2 ay2 < 0) = false := by simp; omega
  have C1 := Lib.hid (fun W => meet_no ax1 ay1 ax2 ay2 bx1 by1 bx2 by2 W ho)
  clear q3
  go_enter Try.func5, Try.ntmps5
  go_wp2_with (first | (go_at_call 6; refine (up_any _).mono ?_; rintro e w1 ⟨rfl, hb1⟩; have K1 := Kp.keep10 hb1 (by assumption); clear hb1) | (go_at_call 9; refine (rmay_any _ _ _ _ _).mono ?_; rintro e w1 ⟨rfl, hb1⟩; have K1 := Kp.keep10 hb1 (by assumption); clear hb1))
  refine (join_any _ _ _ _ _ _ _ _ _).mono ?_
  rintro e w4 ⟨rfl, hb4⟩
  have K4 := Kp.adq10 (Kp.keep10 hb4 (by assumption)) w4.heap.size rfl (.int .i64 (mn ax1 bx1)) (.int .i64 (mn ay1 by1)) (.int .i64 (mx ax2 bx2)) (.int .i64 (mx ay2 by2)) 23
  clear hb4
  go_wp2_with fail
  refine (C1.out _).mono ?_
  rintro e w5 ⟨rfl, hb5⟩
  have K5 := Kp.adq14 (Kp.keep14 hb5 K4) w5.heap.size rfl (.int .i64 0) (.int .i64 0) (.int .i64 0) (.int .i64 0) 23
  clear hb5
  go_wp2_with fail
  go_region_held3 (fun W => W.cell? ⟨w.heap.size, 0, none⟩ = some (.int .i64 ax1) ∧ W.cell? ⟨w.heap.size, 1, none⟩ = some (.int .i64 ay1) ∧ W.cell? ⟨w.heap.size, 2, none⟩ = some (.int .i64 ax2) ∧ W.cell? ⟨w.heap.size, 3, none⟩ = some (.int .i64 ay2) ∧ W.cell? ⟨w.heap.size + 1, 0, none⟩ = some (.int .i64 bx1) ∧ W.cell? ⟨w.heap.size + 1, 1, none⟩ = some (.int .i64 by1) ∧ W.cell? ⟨w.heap.size + 1, 2, none⟩ = some (.int .i64 bx2) ∧ W.cell? ⟨w.heap.size + 1, 3, none⟩ = some (.int .i64 by2) ∧ W.cell? ⟨w.heap.size + 1 + 1, 0, none⟩ = some (.int .i64 px) ∧ W.cell? ⟨w.heap.size + 1 + 1, 1, none⟩ = some (.int .i64 py) ∧ W.cell? ⟨w4.heap.size, 0, none⟩ = some (.int .i64 (mn ax1 bx1)) ∧ W.cell? ⟨w4.heap.size, 1, none⟩ = some (.int .i64 (mn ay1 by1)) ∧ W.cell? ⟨w4.heap.size, 2, none⟩ = some (.int .i64 (mx ax2 bx2)) ∧ W.cell? ⟨w4.heap.size, 3, none⟩ = some (.int .i64 (mx ay2 by2)) ∧ W.cell? ⟨w5.heap.size, 0, none⟩ = some (.int .i64 0) ∧ W.cell? ⟨w5.heap.size, 1, none⟩ = some (.int .i64 0) ∧ W.cell? ⟨w5.heap.size, 2, none⟩ = some (.int .i64 0) ∧ W.cell? ⟨w5.heap.size, 3, none⟩ = some (.int .i64 0) ∧ w.heap.size ≤ W.heap.size ∧ Below w.heap.size w W)
    (first | exact Kp.drew18 (by assumption) | exact Kp.keep18 (by assumption) (by assumption))
    (first | (go_at_call 16; refine (holds_any _ _ _ _ _ _ _ _ _).mono ?_; rintro e w1 ⟨rfl, hb1⟩) | (go_at_call 21; refine (grow_any _ _ _ _ _ _ _ _ _ (by assumption) (by assumption)).mono ?_; rintro e w1 ⟨rfl, hb1⟩) | (go_at_call 9; refine (rmay_any _ _ _ _ _).mono ?_; rintro e w1 ⟨rfl, hb1⟩) | (go_at_call 13; refine (join_back ax1 ay1 ax2 ay2 bx1 by1 bx2 by2 _).mono ?_; rintro e w1 ⟨rfl, hb1⟩))
  go_wp2_with (first | (go_at_call 16; refine (holds_any _ _ _ _ _ _ _ _ _).mono ?_; rintro e w1 ⟨rfl, hb1⟩; have K1 := Kp.keep18 hb1 (by assumption); clear hb1) | (go_at_call 9; refine (rmay_any _ _ _ _ _).mono ?_; rintro e w1 ⟨rfl, hb1⟩; have K1 := Kp.keep18 hb1 (by assumption); clear hb1) | (go_at_call 14; refine (in_any _ _ _ _ _ _ _).mono ?_; rintro e w1 ⟨rfl, hb1⟩; have K1 := Kp.keep18 hb1 (by assumption); clear hb1))
  go_ret
  exact ⟨rfl, Kp.end18 (by assumption)⟩

theorem holds_law (ax1 ay1 ax2 ay2 bx1 by1 bx2 by2 px py : Int) (w : World)  :
    Calls Try.prog 5 #[.agg #[.int .i64 ax1, .int .i64 ay1, .int .i64 ax2, .int .i64 ay2], .agg #[.int .i64 bx1, .int .i64 by1, .int .i64 bx2, .int .i64 by2], .agg #[.int .i64 px, .int .i64 py]] w fun e w' => e = .returned (.bool true) ∧ Below w.heap.size w w' := by
  cases h1 : rmayB ax1 ay1 ax2 ay2
  · exact holds_no1 ax1 ay1 ax2 ay2 bx1 by1 bx2 by2 px py w h1
  cases h2 : rmayB bx1 by1 bx2 by2
  · exact holds_no2 ax1 ay1 ax2 ay2 bx1 by1 bx2 by2 px py w h1 h2
  have hm := in_meet (ax1 := ax1) (ay1 := ay1) (ax2 := ax2) (ay2 := ay2) (bx1 := bx1) (by1 := by1) (bx2 := bx2) (by2 := by2) px py
  cases ho : ordB (mx ax1 bx1) (mx ay1 by1) (mn ax2 bx2) (mn ay2 by2)
  · have hi := in_order (px := px) (py := py) ho
    cases g0 : inB ax1 ay1 ax2 ay2 px py
    · exact holds_apart0 ax1 ay1 ax2 ay2 bx1 by1 bx2 by2 px py w h1 h2 ho g0
    cases g1 : inB bx1 by1 bx2 by2 px py
    · exact holds_apart1 ax1 ay1 ax2 ay2 bx1 by1 bx2 by2 px py w h1 h2 ho g0 g1
    rw [g0, g1, hi] at hm; cases hm
  cases g0 : inB ax1 ay1 ax2 ay2 px py
  · rw [g0] at hm; exact holds_yes0 ax1 ay1 ax2 ay2 bx1 by1 bx2 by2 px py w h1 h2 ho g0 hm.symm
  cases g1 : inB bx1 by1 bx2 by2 px py
  · rw [g0, g1] at hm; exact holds_yes1 ax1 ay1 ax2 ay2 bx1 by1 bx2 by2 px py w h1 h2 ho g0 g1 hm.symm
  rw [g0, g1] at hm; exact holds_yes2 ax1 ay1 ax2 ay2 bx1 by1 bx2 by2 px py w h1 h2 ho g0 g1 hm.symm (in_join g0 g1)
end Go.Proofs.Ytgddfjkjcoglcaa.Rc
