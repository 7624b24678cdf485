/-
  The walk of the statement RectTells: whatever two rectangles and point it is given, it returns true, and memory that was there is left as it was.
-/
import Derived.Test.YtgddfjkjcoglcaaRcUp
namespace Go.Proofs.Ytgddfjkjcoglcaa.Rc
open Go.RowKit Go.Proofs.Ytgddfjkjcoglcaa.Pt

set_option maxHeartbeats 1000000 in
theorem tells_no1 (ax1 ay1 ax2 ay2 bx1 by1 bx2 by2 px py : Int) (w : World) (h1 : rmayB ax1 ay1 ax2 ay2 = false) :
    Calls Try.prog 3 #[.agg #[.int .i64 ax1, .int .i64 ay1, .int .i64 ax2, .int .i64 ay2], .agg #[.int .i64 bx1, .int .i64 by1, .int .i64 bx2, .int .i64 by2], .agg #[.int .i64 px, .int .i64 py]] w fun e w' => e = .returned (.bool true) ∧ Below w.heap.size w w' := by
  have L := Kp.add8 (Kp.adq4 (Kp.adq0 ⟨Nat.le_refl _, Below.refl w.heap.size w⟩ w.heap.size rfl (.int .i64 ax1) (.int .i64 ay1) (.int .i64 ax2) (.int .i64 ay2) 23) (w.heap.size + 1) (by simp) (.int .i64 bx1) (.int .i64 by1) (.int .i64 bx2) (.int .i64 by2) 23) (w.heap.size + 1 + 1) (by simp) (.int .i64 px) (.int .i64 py) 25
  go_enter Try.func3, Try.ntmps3
  go_wp2_with (first | (go_at_call 6; refine (up_any _).mono ?_; rintro e w1 ⟨rfl, hb1⟩; have K1 := Kp.keep10 hb1 (by assumption); clear hb1) | (go_at_call 7; refine (refRect_any _ _ _ _ _).mono ?_; rintro e w1 ⟨rfl, hb1⟩; have K1 := Kp.keep10 hb1 (by assumption); clear hb1) | (go_at_call 8; refine (refMay_any _ _ _).mono ?_; rintro e w1 ⟨rfl, hb1⟩; have K1 := Kp.keep10 hb1 (by assumption); clear hb1) | (go_at_call 9; refine (rmay_any _ _ _ _ _).mono ?_; rintro e w1 ⟨rfl, hb1⟩; have K1 := Kp.keep10 hb1 (by assumption); clear hb1))
  go_ret
  exact ⟨rfl, Kp.end10 (by assumption)⟩

set_option maxHeartbeats 1000000 in
theorem tells_no2 (ax1 ay1 ax2 ay2 bx1 by1 bx2 by2 px py : Int) (w : World) (h1 : rmayB ax1 ay1 ax2 ay2 = true) (h2 : rmayB bx1 by1 bx2 by2 = false) :
    Calls Try.prog 3 #[.agg #[.int .i64 ax1, .int .i64 ay1, .int .i64 ax2, .int .i64 ay2], .agg #[.int .i64 bx1, .int .i64 by1, .int .i64 bx2, .int .i64 by2], .agg #[.int .i64 px, .int .i64 py]] w fun e w' => e = .returned (.bool true) ∧ Below w.heap.size w w' := by
  have L := Kp.add8 (Kp.adq4 (Kp.adq0 ⟨Nat.le_refl _, Below.refl w.heap.size w⟩ w.heap.size rfl (.int .i64 ax1) (.int .i64 ay1) (.int .i64 ax2) (.int .i64 ay2) 23) (w.heap.size + 1) (by simp) (.int .i64 bx1) (.int .i64 by1) (.int .i64 bx2) (.int .i64 by2) 23) (w.heap.size + 1 + 1) (by simp) (.int .i64 px) (.int .i64 py) 25
  go_enter Try.func3, Try.ntmps3
  go_wp2_with (first | (go_at_call 6; refine (up_any _).mono ?_; rintro e w1 ⟨rfl, hb1⟩; have K1 := Kp.keep10 hb1 (by assumption); clear hb1) | (go_at_call 7; refine (refRect_any _ _ _ _ _).mono ?_; rintro e w1 ⟨rfl, hb1⟩; have K1 := Kp.keep10 hb1 (by assumption); clear hb1) | (go_at_call 8; refine (refMay_any _ _ _).mono ?_; rintro e w1 ⟨rfl, hb1⟩; have K1 := Kp.keep10 hb1 (by assumption); clear hb1) | (go_at_call 9; refine (rmay_any _ _ _ _ _).mono ?_; rintro e w1 ⟨rfl, hb1⟩; have K1 := Kp.keep10 hb1 (by assumption); clear hb1))
  go_ret
  exact ⟨rfl, Kp.end10 (by assumption)⟩

set_option maxHeartbeats 1000000 in
theorem tells_no3 (ax1 ay1 ax2 ay2 bx1 by1 bx2 by2 px py : Int) (w : World) (h1 : rmayB ax1 ay1 ax2 ay2 = true) (h2 : rmayB bx1 by1 bx2 by2 = true) (h3 : mayB px py = false) :
    Calls Try.prog 3 #[.agg #[.int .i64 ax1, .int .i64 ay1, .int .i64 ax2, .int .i64 ay2], .agg #[.int .i64 bx1, .int .i64 by1, .int .i64 bx2, .int .i64 by2], .agg #[.int .i64 px, .int .i64 py]] w fun e w' => e = .returned (.bool true) ∧ Below w.heap.size w w' := by
  have L := Kp.add8 (Kp.adq4 (Kp.adq0 ⟨Nat.le_refl _, Below.refl w.heap.size w⟩ w.heap.size rfl (.int .i64 ax1) (.int .i64 ay1) (.int .i64 ax2) (.int .i64 ay2) 23) (w.heap.size + 1) (by simp) (.int .i64 bx1) (.int .i64 by1) (.int .i64 bx2) (.int .i64 by2) 23) (w.heap.size + 1 + 1) (by simp) (.int .i64 px) (.int .i64 py) 25
  go_enter Try.func3, Try.ntmps3
  go_wp2_with (first | (go_at_call 6; refine (up_any _).mono ?_; rintro e w1 ⟨rfl, hb1⟩; have K1 := Kp.keep10 hb1 (by assumption); clear hb1) | (go_at_call 7; refine (refRect_any _ _ _ _ _).mono ?_; rintro e w1 ⟨rfl, hb1⟩; have K1 := Kp.keep10 hb1 (by assumption); clear hb1) | (go_at_call 8; refine (refMay_any _ _ _).mono ?_; rintro e w1 ⟨rfl, hb1⟩; have K1 := Kp.keep10 hb1 (by assumption); clear hb1) | (go_at_call 9; refine (rmay_any _ _ _ _ _).mono ?_; rintro e w1 ⟨rfl, hb1⟩; have K1 := Kp.keep10 hb1 (by assumption); clear hb1))
  go_ret
  exact ⟨rfl, Kp.end10 (by assumption)⟩

set_option maxHeartbeats 4000000 in
set_option maxRecDepth 100000 in
theorem tells_yes (ax1 ay1 ax2 ay2 bx1 by1 bx2 by2 px py : Int) (w : World) (h1 : rmayB ax1 ay1 ax2 ay2 = true) (h2 : rmayB bx1 by1 bx2 by2 = true) (h3 : mayB px py = true) (ho : ordB (mx ax1 bx1) (mx ay1 by1) (mn ax2 bx2) (mn ay2 by2) = true) :
    Calls Try.prog 3 #[.agg #[.int .i64 ax1, .int .i64 ay1, .int .i64 ax2, .int .i64 ay2], .agg #[.int .i64 bx1, .int .i64 by1, .int .i64 bx2, .int .i64 by2], .agg #[.int .i64 px, .int .i64 py]] w fun e w' => e = .returned (.bool true) ∧ Below w.heap.size w w' := by
  have L := Kp.add8 (Kp.adq4 (Kp.adq0 ⟨Nat.le_refl _, Below.refl w.heap.size w⟩ w.heap.size rfl (.int .i64 ax1) (.int .i64 ay1) (.int .i64 ax2) (.int .i64 ay2) 23) (w.heap.size + 1) (by simp) (.int .i64 bx1) (.int .i64 by1) (.int .i64 bx2) (.int .i64 by2) 23) (w.heap.size + 1 + 1) (by simp) (.int .i64 px) (.int .i64 py) 25
  obtain ⟨_, _, _, _, _, _⟩ := rmayB_bd h1
  have hj := join_may h1 h2
  have r1 : inR ax1 = true := inR_iff.2 (by omega)
  have r2 : inR ay1 = true := inR_iff.2 (by omega)
  have r3 : inR ax2 = true := inR_iff.2 (by omega)
  have r4 : inR ay2 = true := inR_iff.2 (by omega)
  obtain ⟨_, _, _, _, _, _⟩ := rmayB_bd h2
  have r5 : inR bx1 = true := inR_iff.2 (by omega)
  have r6 : inR by1 = true := inR_iff.2 (by omega)
  have r7 : inR bx2 = true := inR_iff.2 (by omega)
  have r8 : inR by2 = true := inR_iff.2 (by omega)
  have C1 := Lib.hid (fun W => meet_yes ax1 ay1 ax2 ay2 bx1 by1 bx2 by2 W ho)
  have C2 := Lib.hid (fun W => refMeet_yes ax1 ay1 ax2 ay2 bx1 by1 bx2 by2 W r1 r2 r5 r6 ho)
  have C3 := Lib.hid (fun W => refJoin_any ax1 ay1 ax2 ay2 bx1 by1 bx2 by2 W r3 r4 r7 r8)
  have b1 := areaI_bd h1
  have b2 := areaI_bd hj
  have t1 := IntWalk.i64_in (areaI (mn ax1 bx1) (mn ay1 by1) (mx ax2 bx2) (mx ay2 by2) - areaI ax1 ay1 ax2 ay2) (by omega)
  have t2 := IntWalk.i64_in (ax2 - ax1) (by omega)
  have t3 := IntWalk.i64_in (ax2 - ax1 + ay2) (by omega)
  have t4 : IntKind.i64.wrap (ax2 - ax1 + ay2 - ay1) = marginI ax1 ay1 ax2 ay2 := IntWalk.i64_in (ax2 - ax1 + ay2 - ay1) (by omega)
  have T := Lib.hid (And.intro t1 (And.intro t2 (And.intro t3 t4)))
  clear t1 t2 t3 t4 r1 r2 r3 r4 r5 r6 r7 r8 ho b1 b2
  go_enter Try.func3, Try.ntmps3
  go_wp2_with (first | (go_at_call 6; refine (up_any _).mono ?_; rintro e w1 ⟨rfl, hb1⟩; have K1 := Kp.keep10 hb1 (by assumption); clear hb1) | (go_at_call 7; refine (refRect_any _ _ _ _ _).mono ?_; rintro e w1 ⟨rfl, hb1⟩; have K1 := Kp.keep10 hb1 (by assumption); clear hb1) | (go_at_call 8; refine (refMay_any _ _ _).mono ?_; rintro e w1 ⟨rfl, hb1⟩; have K1 := Kp.keep10 hb1 (by assumption); clear hb1) | (go_at_call 9; refine (rmay_any _ _ _ _ _).mono ?_; rintro e w1 ⟨rfl, hb1⟩; have K1 := Kp.keep10 hb1 (by assumption); clear hb1))
  refine (C1.out _).mono ?_
  rintro e w6 ⟨rfl, hb6⟩
  have K6 := Kp.adq10 (Kp.keep10 hb6 (by assumption)) w6.heap.size rfl (.int .i64 (mx ax1 bx1)) (.int .i64 (mx ay1 by1)) (.int .i64 (mn ax2 bx2)) (.int .i64 (mn ay2 by2)) 23
  clear hb6
  go_wp2_with fail
  refine (C2.out _).mono ?_
  rintro e w7 ⟨rfl, hb7⟩
  have K7 := Kp.adq14 (Kp.keep14 hb7 K6) w7.heap.size rfl (.int .i64 (mx ax1 bx1)) (.int .i64 (mx ay1 by1)) (.int .i64 (mn ax2 bx2)) (.int .i64 (mn ay2 by2)) 23
  clear hb7
  go_wp2_with fail
  refine (C3.out _).mono ?_
  rintro e w8 ⟨rfl, hb8⟩
  have K8 := Kp.adq18 (Kp.keep18 hb8 K7) w8.heap.size rfl (.int .i64 (mn ax1 bx1)) (.int .i64 (mn ay1 by1)) (.int .i64 (mx ax2 bx2)) (.int .i64 (mx ay2 by2)) 23
  clear hb8
  go_wp2_with fail
  go_region_held3 (fun W => W.cell? ⟨w.heap.size, 0, none⟩ = some (.int .i64 ax1) ∧ W.cell? ⟨w.heap.size, 1, none⟩ = some (.int .i64 ay1) ∧ W.cell? ⟨w.heap.size, 2, none⟩ = some (.int .i64 ax2) ∧ W.cell? ⟨w.heap.size, 3, none⟩ = some (.int .i64 ay2) ∧ W.cell? ⟨w.heap.size + 1, 0, none⟩ = some (.int .i64 bx1) ∧ W.cell? ⟨w.heap.size + 1, 1, none⟩ = some (.int .i64 by1) ∧ W.cell? ⟨w.heap.size + 1, 2, none⟩ = some (.int .i64 bx2) ∧ W.cell? ⟨w.heap.size + 1, 3, none⟩ = some (.int .i64 by2) ∧ W.cell? ⟨w.heap.size + 1 + 1, 0, none⟩ = some (.int .i64 px) ∧ W.cell? ⟨w.heap.size + 1 + 1, 1, none⟩ = some (.int .i64 py) ∧ W.cell? ⟨w6.heap.size, 0, none⟩ = some (.int .i64 (mx ax1 bx1)) ∧ W.cell? ⟨w6.heap.size, 1, none⟩ = some (.int .i64 (mx ay1 by1)) ∧ W.cell? ⟨w6.heap.size, 2, none⟩ = some (.int .i64 (mn ax2 bx2)) ∧ W.cell? ⟨w6.heap.size, 3, none⟩ = some (.int .i64 (mn ay2 by2)) ∧ W.cell? ⟨w7.heap.size, 0, none⟩ = some (.int .i64 (mx ax1 bx1)) ∧ W.cell? ⟨w7.heap.size, 1, none⟩ = some (.int .i64 (mx ay1 by1)) ∧ W.cell? ⟨w7.heap.size, 2, none⟩ = some (.int .i64 (mn ax2 bx2)) ∧ W.cell? ⟨w7.heap.size, 3, none⟩ = some (.int .i64 (mn ay2 by2)) ∧ W.cell? ⟨w8.heap.size, 0, none⟩ = some (.int .i64 (mn ax1 bx1)) ∧ W.cell? ⟨w8.heap.size, 1, none⟩ = some (.int .i64 (mn ay1 by1)) ∧ W.cell? ⟨w8.heap.size, 2, none⟩ = some (.int .i64 (mx ax2 bx2)) ∧ W.cell? ⟨w8.heap.size, 3, none⟩ = some (.int .i64 (mx ay2 by2)) ∧ w.heap.size ≤ W.heap.size ∧ Below w.heap.size w W)
    (first | exact Kp.drew22 (by assumption) | exact Kp.keep22 (by assumption) (by assumption))
    (first | (go_at_call 13; refine (join_any _ _ _ _ _ _ _ _ _).mono ?_; rintro e w1 ⟨rfl, hb1⟩) | (go_at_call 14; refine (in_any _ _ _ _ _ _ _).mono ?_; rintro e w1 ⟨rfl, hb1⟩) | (go_at_call 15; refine (refIn_any _ _ _ _ _ _ _).mono ?_; rintro e w1 ⟨rfl, hb1⟩) | (go_at_call 16; refine (holds_any _ _ _ _ _ _ _ _ _).mono ?_; rintro e w1 ⟨rfl, hb1⟩) | (go_at_call 17; refine (refHolds_any _ _ _ _ _ _ _ _ _).mono ?_; rintro e w1 ⟨rfl, hb1⟩))
  go_wp2_with fail
  obtain ⟨t1, t2, t3, t4⟩ := T.out
  go_region_held3 (fun W => W.cell? ⟨w.heap.size, 0, none⟩ = some (.int .i64 ax1) ∧ W.cell? ⟨w.heap.size, 1, none⟩ = some (.int .i64 ay1) ∧ W.cell? ⟨w.heap.size, 2, none⟩ = some (.int .i64 ax2) ∧ W.cell? ⟨w.heap.size, 3, none⟩ = some (.int .i64 ay2) ∧ W.cell? ⟨w.heap.size + 1, 0, none⟩ = some (.int .i64 bx1) ∧ W.cell? ⟨w.heap.size + 1, 1, none⟩ = some (.int .i64 by1) ∧ W.cell? ⟨w.heap.size + 1, 2, none⟩ = some (.int .i64 bx2) ∧ W.cell? ⟨w.heap.size + 1, 3, none⟩ = some (.int .i64 by2) ∧ W.cell? ⟨w.heap.size + 1 + 1, 0, none⟩ = some (.int .i64 px) ∧ W.cell? ⟨w.heap.size + 1 + 1, 1, none⟩ = some (.int .i64 py) ∧ W.cell? ⟨w6.heap.size, 0, none⟩ = some (.int .i64 (mx ax1 bx1)) ∧ W.cell? ⟨w6.heap.size, 1, none⟩ = some (.int .i64 (mx ay1 by1)) ∧ W.cell? ⟨w6.heap.size, 2, none⟩ = some (.int .i64 (mn ax2 bx2)) ∧ W.cell? ⟨w6.heap.size, 3, none⟩ = some (.int .i64 (mn ay2 by2)) ∧ W.cell? ⟨w7.heap.size, 0, none⟩ = some (.int .i64 (mx ax1 bx1)) ∧ W.cell? ⟨w7.heap.size, 1, none⟩ = some (.int .i64 (mx ay1 by1)) ∧ W.cell? ⟨w7.heap.size, 2, none⟩ = some (.int .i64 (mn ax2 bx2)) ∧ W.cell? ⟨w7.heap.size, 3, none⟩ = some (.int .i64 (mn ay2 by2)) ∧ W.cell? ⟨w8.heap.size, 0, none⟩ = some (.int .i64 (mn ax1 bx1)) ∧ W.cell? ⟨w8.heap.size, 1, none⟩ = some (.int .i64 (mn ay1 by1)) ∧ W.cell? ⟨w8.heap.size, 2, none⟩ = some (.int .i64 (mx ax2 bx2)) ∧ W.cell? ⟨w8.heap.size, 3, none⟩ = some (.int .i64 (mx ay2 by2)) ∧ w.heap.size ≤ W.heap.size ∧ Below w.heap.size w W)
    (first | exact Kp.drew22 (by assumption) | exact Kp.keep22 (by assumption) (by assumption))
    (first | (go_at_call 18; refine (area_any _ _ _ _ _ (by assumption)).mono ?_; rintro e w1 ⟨rfl, hb1⟩) | (go_at_call 19; refine (refArea_any _ _ _ _ _ (by assumption)).mono ?_; rintro e w1 ⟨rfl, hb1⟩) | (go_at_call 20; refine (margin_any _ _ _ _ _ (by assumption)).mono ?_; rintro e w1 ⟨rfl, hb1⟩) | (go_at_call 21; refine (grow_any _ _ _ _ _ _ _ _ _ (by assumption) (by assumption)).mono ?_; rintro e w1 ⟨rfl, hb1⟩))
  go_wp2_with fail
  go_ret
  exact ⟨rfl, Kp.end22 (by assumption)⟩

set_option maxHeartbeats 4000000 in
set_option maxRecDepth 100000 in
theorem tells_apart (ax1 ay1 ax2 ay2 bx1 by1 bx2 by2 px py : Int) (w : World) (h1 : rmayB ax1 ay1 ax2 ay2 = true) (h2 : rmayB bx1 by1 bx2 by2 = true) (h3 : mayB px py = true) (ho : ordB (mx ax1 bx1) (mx ay1 by1) (mn ax2 bx2) (mn ay2 by2) = false) :
    Calls Try.prog 3 #[.agg #[.int .i64 ax1, .int .i64 ay1, .int .i64 ax2, .int .i64 ay2], .agg #[.int .i64 bx1, .int .i64 by1, .int .i64 bx2, .int .i64 by2], .agg #[.int .i64 px, .int .i64 py]] w fun e w' => e = .returned (.bool true) ∧ Below w.heap.size w w' := by
  have L := Kp.add8 (Kp.adq4 (Kp.adq0 ⟨Nat.le_refl _, Below.refl w.heap.size w⟩ w.heap.size rfl (.int .i64 ax1) (.int .i64 ay1) (.int .i64 ax2) (.int .i64 ay2) 23) (w.heap.size + 1) (by simp) (.int .i64 bx1) (.int .i64 by1) (.int .i64 bx2) (.int .i64 by2) 23) (w.heap.size + 1 + 1) (by simp) (.int .i64 px) (.int .i64 py) 25
  obtain ⟨_, _, _, _, _, _⟩ := rmayB_bd h1
  have hj := join_may h1 h2
  have r1 : inR ax1 = true := inR_iff.2 (by omega)
  have r2 : inR ay1 = true := inR_iff.2 (by omega)
  have r3 : inR ax2 = true := inR_iff.2 (by omega)
  have r4 : inR ay2 = true := inR_iff.2 (by omega)
  obtain ⟨_, _, _, _, _, _⟩ := rmayB_bd h2
  have r5 : inR bx1 = true := inR_iff.2 (by omega)
  have r6 : inR by1 = true := inR_iff.2 (by omega)
  have r7 : inR bx2 = true := inR_iff.2 (by omega)
  have r8 : inR by2 = true := inR_iff.2 (by omega)
  have C1 := Lib.hid (fun W => meet_no ax1 ay1 ax2 ay2 bx1 by1 bx2 by2 W ho)
  have C2 := Lib.hid (fun W => refMeet_no ax1 ay1 ax2 ay2 bx1 by1 bx2 by2 W r1 r2 r5 r6 ho)
  have C3 := Lib.hid (fun W => refJoin_any ax1 ay1 ax2 ay2 bx1 by1 bx2 by2 W r3 r4 r7 r8)
  have b1 := areaI_bd h1
  have b2 := areaI_bd hj
  have t1 := IntWalk.i64_in (areaI (mn ax1 bx1) (mn ay1 by1) (mx ax2 bx2) (mx ay2 by2) - areaI ax1 ay1 ax2 ay2) (by omega)
  have t2 := IntWalk.i64_in (ax2 - ax1) (by omega)
  have t3 := IntWalk.i64_in (ax2 - ax1 + ay2) (by omega)
  have t4 : IntKind.i64.wrap (ax2 - ax1 + ay2 - ay1) = marginI ax1 ay1 ax2 ay2 := IntWalk.i64_in (ax2 - ax1 + ay2 - ay1) (by omega)
  have T := Lib.hid (And.intro t1 (And.intro t2 (And.intro t3 t4)))
  clear t1 t2 t3 t4 r1 r2 r3 r4 r5 r6 r7 r8 ho b1 b2
  go_enter Try.func3, Try.ntmps3
  go_wp2_with (first | (go_at_call 6; refine (up_any _).mono ?_; rintro e w1 ⟨rfl, hb1⟩; have K1 := Kp.keep10 hb1 (by assumption); clear hb1) | (go_at_call 7; refine (refRect_any _ _ _ _ _).mono ?_; rintro e w1 ⟨rfl, hb1⟩; have K1 := Kp.keep10 hb1 (by assumption); clear hb1) | (go_at_call 8; refine (refMay_any _ _ _).mono ?_; rintro e w1 ⟨rfl, hb1⟩; have K1 := Kp.keep10 hb1 (by assumption); clear hb1) | (go_at_call 9; refine (rmay_any _ _ _ _ _).mono ?_; rintro e w1 ⟨rfl, hb1⟩; have K1 := Kp.keep10 hb1 (by assumption); clear hb1))
  refine (C1.out _).mono ?_
  rintro e w6 ⟨rfl, hb6⟩
  have K6 := Kp.adq10 (Kp.keep10 hb6 (by assumption)) w6.heap.size rfl (.int .i64 0) (.int .i64 0) (.int .i64 0) (.int .i64 0) 23
  clear hb6
  go_wp2_with fail
  refine (C2.out _).mono ?_
  rintro e w7 ⟨rfl, hb7⟩
  have K7 := Kp.adq14 (Kp.keep14 hb7 K6) w7.heap.size rfl (.int .i64 0) (.int .i64 0) (.int .i64 0) (.int .i64 0) 23
  clear hb7
  go_wp2_with fail
  refine (C3.out _).mono ?_
  rintro e w8 ⟨rfl, hb8⟩
  have K8 := Kp.adq18 (Kp.keep18 hb8 K7) w8.heap.size rfl (.int .i64 (mn ax1 bx1)) (.int .i64 (mn ay1 by1)) (.int .i64 (mx ax2 bx2)) (.int .i64 (mx ay2 by2)) 23
  clear hb8
  go_wp2_with fail
  go_region_held3 (fun W => W.cell? ⟨w.heap.size, 0, none⟩ = some (.int .i64 ax1) ∧ W.cell? ⟨w.heap.size, 1, none⟩ = some (.int .i64 ay1) ∧ W.cell? ⟨w.heap.size, 2, none⟩ = some (.int .i64 ax2) ∧ W.cell? ⟨w.heap.size, 3, none⟩ = some (.int .i64 ay2) ∧ W.cell? ⟨w.heap.size + 1, 0, none⟩ = some (.int .i64 bx1) ∧ W.cell? ⟨w.heap.size + 1, 1, none⟩ = some (.int .i64 by1) ∧ W.cell? ⟨w.heap.size + 1, 2, none⟩ = some (.int .i64 bx2) ∧ W.cell? ⟨w.heap.size + 1, 3, none⟩ = some (.int .i64 by2) ∧ W.cell? ⟨w.heap.size + 1 + 1, 0, none⟩ = some (.int .i64 px) ∧ W.cell? ⟨w.heap.size + 1 + 1, 1, none⟩ = some (.int .i64 py) ∧ W.cell? ⟨w6.heap.size, 0, none⟩ = some (.int .i64 0) ∧ W.cell? ⟨w6.heap.size, 1, none⟩ = some (.int .i64 0) ∧ W.cell? ⟨w6.heap.size, 2, none⟩ = some (.int .i64 0) ∧ W.cell? ⟨w6.heap.size, 3, none⟩ = some (.int .i64 0) ∧ W.cell? ⟨w7.heap.size, 0, none⟩ = some (.int .i64 0) ∧ W.cell? ⟨w7.heap.size, 1, none⟩ = some (.int .i64 0) ∧ W.cell? ⟨w7.heap.size, 2, none⟩ = some (.int .i64 0) ∧ W.cell? ⟨w7.heap.size, 3, none⟩ = some (.int .i64 0) ∧ W.cell? ⟨w8.heap.size, 0, none⟩ = some (.int .i64 (mn ax1 bx1)) ∧ W.cell? ⟨w8.heap.size, 1, none⟩ = some (.int .i64 (mn ay1 by1)) ∧ W.cell? ⟨w8.heap.size, 2, none⟩ = some (.int .i64 (mx ax2 bx2)) ∧ W.cell? ⟨w8.heap.size, 3, none⟩ = some (.int .i64 (mx ay2 by2)) ∧ w.heap.size ≤ W.heap.size ∧ Below w.heap.size w W)
    (first | exact Kp.drew22 (by assumption) | exact Kp.keep22 (by assumption) (by assumption))
    (first | (go_at_call 13; refine (join_any _ _ _ _ _ _ _ _ _).mono ?_; rintro e w1 ⟨rfl, hb1⟩) | (go_at_call 14; refine (in_any _ _ _ _ _ _ _).mono ?_; rintro e w1 ⟨rfl, hb1⟩) | (go_at_call 15; refine (refIn_any _ _ _ _ _ _ _).mono ?_; rintro e w1 ⟨rfl, hb1⟩) | (go_at_call 16; refine (holds_any _ _ _ _ _ _ _ _ _).mono ?_; rintro e w1 ⟨rfl, hb1⟩) | (go_at_call 17; refine (refHolds_any _ _ _ _ _ _ _ _ _).mono ?_; rintro e w1 ⟨rfl, hb1⟩))
  go_wp2_with fail
  obtain ⟨t1, t2, t3, t4⟩ := T.out
  go_region_held3 (fun W => W.cell? ⟨w.heap.size, 0, none⟩ = some (.int .i64 ax1) ∧ W.cell? ⟨w.heap.size, 1, none⟩ = some (.int .i64 ay1) ∧ W.cell? ⟨w.heap.size, 2, none⟩ = some (.int .i64 ax2) ∧ W.cell? ⟨w.heap.size, 3, none⟩ = some (.int .i64 ay2) ∧ W.cell? ⟨w.heap.size + 1, 0, none⟩ = some (.int .i64 bx1) ∧ W.cell? ⟨w.heap.size + 1, 1, none⟩ = some (.int .i64 by1) ∧ W.cell? ⟨w.heap.size + 1, 2, none⟩ = some (.int .i64 bx2) ∧ W.cell? ⟨w.heap.size + 1, 3, none⟩ = some (.int .i64 by2) ∧ W.cell? ⟨w.heap.size + 1 + 1, 0, none⟩ = some (.int .i64 px) ∧ W.cell? ⟨w.heap.size + 1 + 1, 1, none⟩ = some (.int .i64 py) ∧ W.cell? ⟨w6.heap.size, 0, none⟩ = some (.int .i64 0) ∧ W.cell? ⟨w6.heap.size, 1, none⟩ = some (.int .i64 0) ∧ W.cell? ⟨w6.heap.size, 2, none⟩ = some (.int .i64 0) ∧ W.cell? ⟨w6.heap.size, 3, none⟩ = some (.int .i64 0) ∧ W.cell? ⟨w7.heap.size, 0, none⟩ = some (.int .i64 0) ∧ W.cell? ⟨w7.heap.size, 1, none⟩ = some (.int .i64 0) ∧ W.cell? ⟨w7.heap.size, 2, none⟩ = some (.int .i64 0) ∧ W.cell? ⟨w7.heap.size, 3, none⟩ = some (.int .i64 0) ∧ W.cell? ⟨w8.heap.size, 0, none⟩ = some (.int .i64 (mn ax1 bx1)) ∧ W.cell? ⟨w8.heap.size, 1, none⟩ = some (.int .i64 (mn ay1 by1)) ∧ W.cell? ⟨w8.heap.size, 2, none⟩ = some (.int .i64 (mx ax2 bx2)) ∧ W.cell? ⟨w8.heap.size, 3, none⟩ = some (.int .i64 (mx ay2 by2)) ∧ w.heap.size ≤ W.heap.size ∧ Below w.heap.size w W)
    (first | exact Kp.drew22 (by assumption) | exact Kp.keep22 (by assumption) (by assumption))
    (first | (go_at_call 18; refine (area_any _ _ _ _ _ (by assumption)).mono ?_; rintro e w1 ⟨rfl, hb1⟩) | (go_at_call 19; refine (refArea_any _ _ _ _ _ (by assumption)).mono ?_; rintro e w1 ⟨rfl, hb1⟩) | (go_at_call 20; refine (margin_any _ _ _ _ _ (by assumption)).mono ?_; rintro e w1 ⟨rfl, hb1⟩) | (go_at_call 21; refine (grow_any _ _ _ _ _ _ _ _ _ (by assumption) (by assumption)).mono ?_; rintro e w1 ⟨rfl, hb1⟩))
  go_wp2_with fail
  go_ret
  exact ⟨rfl, Kp.end22 (by assumption)⟩

theorem tells_any (ax1 ay1 ax2 ay2 bx1 by1 bx2 by2 px py : Int) (w : World)  :
    Calls Try.prog 3 #[.agg #[.int .i64 ax1, .int .i64 ay1, .int .i64 ax2, .int .i64 ay2], .agg #[.int .i64 bx1, .int .i64 by1, .int .i64 bx2, .int .i64 by2], .agg #[.int .i64 px, .int .i64 py]] w fun e w' => e = .returned (.bool true) ∧ Below w.heap.size w w' := by
  cases h1 : rmayB ax1 ay1 ax2 ay2
  · exact tells_no1 ax1 ay1 ax2 ay2 bx1 by1 bx2 by2 px py w h1
  cases h2 : rmayB bx1 by1 bx2 by2
  · exact tells_no2 ax1 ay1 ax2 ay2 bx1 by1 bx2 by2 px py w h1 h2
  cases h3 : mayB px py
  · exact tells_no3 ax1 ay1 ax2 ay2 bx1 by1 bx2 by2 px py w h1 h2 h3
  cases ho : ordB (mx ax1 bx1) (mx ay1 by1) (mn ax2 bx2) (mn ay2 by2)
  · exact tells_apart ax1 ay1 ax2 ay2 bx1 by1 bx2 by2 px py w h1 h2 h3 ho
  exact tells_yes ax1 ay1 ax2 ay2 bx1 by1 bx2 by2 px py w h1 h2 h3 ho
end Go.Proofs.Ytgddfjkjcoglcaa.Rc
