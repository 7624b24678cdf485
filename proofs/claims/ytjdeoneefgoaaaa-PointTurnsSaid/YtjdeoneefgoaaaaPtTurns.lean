/-
  The walk of the statement PointTurns: whatever four points it is given, it returns true, and memory that was there is left as it was.
-/
import Derived.Test.YtjdeoneefgoaaaaPtUp
import Derived.Test.YtjdeoneefgoaaaaPtCross
import Derived.Test.YtjdeoneefgoaaaaKeep
namespace Go.Proofs.Ytjdeoneefgoaaaa.Pt
open Go.RowKit

/-- A coordinate of what Add answers; its error. -/
def addV : Bool → Int → Int
  | true, n => n
  | false, _ => 0
def addE : Bool → Value
  | true => .nilIface
  | false => .iface 33 (.int .i64 11)
theorem add_any (px py dx dy : Int) (w : World) (h1 : mayB px py = true) (h2 : mayB dx dy = true) :
    Calls Try.prog 15 #[.agg #[.int .i64 px, .int .i64 py], .agg #[.int .i64 dx, .int .i64 dy]] w fun e w' => e = .returned (.tuple #[.agg #[.int .i64 (addV (mayB (px + dx) (py + dy)) (px + dx)), .int .i64 (addV (mayB (px + dx) (py + dy)) (py + dy))], addE (mayB (px + dx) (py + dy))]) ∧ Below w.heap.size w w' := by
  cases h3 : mayB (px + dx) (py + dy)
  · exact add_no3 px py dx dy w h1 h2 h3
  · exact add_ok px py dx dy w h1 h2 h3

set_option maxHeartbeats 1000000 in
theorem turns_no1 (ax ay bx b2 cx cy dx dy : Int) (w : World)  (h1 : mayB ax ay = false) :
    Calls Try.prog 5 #[.agg #[.int .i64 ax, .int .i64 ay], .agg #[.int .i64 bx, .int .i64 b2], .agg #[.int .i64 cx, .int .i64 cy], .agg #[.int .i64 dx, .int .i64 dy]] w fun e w' => e = .returned (.bool true) ∧ Below w.heap.size w w' := by
  have L := Kp.add6 (Kp.add4 (Kp.add2 (Kp.add0 ⟨Nat.le_refl _, Below.refl w.heap.size w⟩ w.heap.size rfl (.int .i64 ax) (.int .i64 ay) 23) (w.heap.size + 1) (by simp) (.int .i64 bx) (.int .i64 b2) 23) (w.heap.size + 1 + 1) (by simp) (.int .i64 cx) (.int .i64 cy) 23) (w.heap.size + 1 + 1 + 1) (by simp) (.int .i64 dx) (.int .i64 dy) 23
  go_enter Try.func5, Try.ntmps5
  go_wp2_with (first | (go_at_call 6; refine (up_any _).mono ?_; rintro e w1 ⟨rfl, hb1⟩; have K1 := Kp.keep8 hb1 (by assumption); clear hb1) | (go_at_call 8; refine (may_any _ _ _).mono ?_; rintro e w1 ⟨rfl, hb1⟩; have K1 := Kp.keep8 hb1 (by assumption); clear hb1))
  go_ret
  exact ⟨rfl, Kp.end8 (by assumption)⟩

set_option maxHeartbeats 1000000 in
theorem turns_no2 (ax ay bx b2 cx cy dx dy : Int) (w : World) (h1 : mayB ax ay = true) (h2 : mayB bx b2 = false) :
    Calls Try.prog 5 #[.agg #[.int .i64 ax, .int .i64 ay], .agg #[.int .i64 bx, .int .i64 b2], .agg #[.int .i64 cx, .int .i64 cy], .agg #[.int .i64 dx, .int .i64 dy]] w fun e w' => e = .returned (.bool true) ∧ Below w.heap.size w w' := by
  have L := Kp.add6 (Kp.add4 (Kp.add2 (Kp.add0 ⟨Nat.le_refl _, Below.refl w.heap.size w⟩ w.heap.size rfl (.int .i64 ax) (.int .i64 ay) 23) (w.heap.size + 1) (by simp) (.int .i64 bx) (.int .i64 b2) 23) (w.heap.size + 1 + 1) (by simp) (.int .i64 cx) (.int .i64 cy) 23) (w.heap.size + 1 + 1 + 1) (by simp) (.int .i64 dx) (.int .i64 dy) 23
  go_enter Try.func5, Try.ntmps5
  go_wp2_with (first | (go_at_call 6; refine (up_any _).mono ?_; rintro e w1 ⟨rfl, hb1⟩; have K1 := Kp.keep8 hb1 (by assumption); clear hb1) | (go_at_call 8; refine (may_any _ _ _).mono ?_; rintro e w1 ⟨rfl, hb1⟩; have K1 := Kp.keep8 hb1 (by assumption); clear hb1))
  go_ret
  exact ⟨rfl, Kp.end8 (by assumption)⟩

set_option maxHeartbeats 1000000 in
theorem turns_no3 (ax ay bx b2 cx cy dx dy : Int) (w : World) (h1 : mayB ax ay = true) (h2 : mayB bx b2 = true) (h3 : mayB cx cy = false) :
    Calls Try.prog 5 #[.agg #[.int .i64 ax, .int .i64 ay], .agg #[.int .i64 bx, .int .i64 b2], .agg #[.int .i64 cx, .int .i64 cy], .agg #[.int .i64 dx, .int .i64 dy]] w fun e w' => e = .returned (.bool true) ∧ Below w.heap.size w w' := by
  have L := Kp.add6 (Kp.add4 (Kp.add2 (Kp.add0 ⟨Nat.le_refl _, Below.refl w.heap.size w⟩ w.heap.size rfl (.int .i64 ax) (.int .i64 ay) 23) (w.heap.size + 1) (by simp) (.int .i64 bx) (.int .i64 b2) 23) (w.heap.size + 1 + 1) (by simp) (.int .i64 cx) (.int .i64 cy) 23) (w.heap.size + 1 + 1 + 1) (by simp) (.int .i64 dx) (.int .i64 dy) 23
  go_enter Try.func5, Try.ntmps5
  go_wp2_with (first | (go_at_call 6; refine (up_any _).mono ?_; rintro e w1 ⟨rfl, hb1⟩; have K1 := Kp.keep8 hb1 (by assumption); clear hb1) | (go_at_call 8; refine (may_any _ _ _).mono ?_; rintro e w1 ⟨rfl, hb1⟩; have K1 := Kp.keep8 hb1 (by assumption); clear hb1))
  go_ret
  exact ⟨rfl, Kp.end8 (by assumption)⟩

set_option maxHeartbeats 1000000 in
theorem turns_no4 (ax ay bx b2 cx cy dx dy : Int) (w : World) (h1 : mayB ax ay = true) (h2 : mayB bx b2 = true) (h3 : mayB cx cy = true) (h4 : mayB dx dy = false) :
    Calls Try.prog 5 #[.agg #[.int .i64 ax, .int .i64 ay], .agg #[.int .i64 bx, .int .i64 b2], .agg #[.int .i64 cx, .int .i64 cy], .agg #[.int .i64 dx, .int .i64 dy]] w fun e w' => e = .returned (.bool true) ∧ Below w.heap.size w w' := by
  have L := Kp.add6 (Kp.add4 (Kp.add2 (Kp.add0 ⟨Nat.le_refl _, Below.refl w.heap.size w⟩ w.heap.size rfl (.int .i64 ax) (.int .i64 ay) 23) (w.heap.size + 1) (by simp) (.int .i64 bx) (.int .i64 b2) 23) (w.heap.size + 1 + 1) (by simp) (.int .i64 cx) (.int .i64 cy) 23) (w.heap.size + 1 + 1 + 1) (by simp) (.int .i64 dx) (.int .i64 dy) 23
  go_enter Try.func5, Try.ntmps5
  go_wp2_with (first | (go_at_call 6; refine (up_any _).mono ?_; rintro e w1 ⟨rfl, hb1⟩; have K1 := Kp.keep8 hb1 (by assumption); clear hb1) | (go_at_call 8; refine (may_any _ _ _).mono ?_; rintro e w1 ⟨rfl, hb1⟩; have K1 := Kp.keep8 hb1 (by assumption); clear hb1))
  go_ret
  exact ⟨rfl, Kp.end8 (by assumption)⟩

set_option maxHeartbeats 4000000 in
set_option maxRecDepth 100000 in
theorem turns_add1 (ax ay bx b2 cx cy dx dy : Int) (w : World) (h1 : mayB ax ay = true) (h2 : mayB bx b2 = true) (h3 : mayB cx cy = true) (h4 : mayB dx dy = true) (s1 : mayB (ax + dx) (ay + dy) = false) :
    Calls Try.prog 5 #[.agg #[.int .i64 ax, .int .i64 ay], .agg #[.int .i64 bx, .int .i64 b2], .agg #[.int .i64 cx, .int .i64 cy], .agg #[.int .i64 dx, .int .i64 dy]] w fun e w' => e = .returned (.bool true) ∧ Below w.heap.size w w' := by
  have L := Kp.add6 (Kp.add4 (Kp.add2 (Kp.add0 ⟨Nat.le_refl _, Below.refl w.heap.size w⟩ w.heap.size rfl (.int .i64 ax) (.int .i64 ay) 23) (w.heap.size + 1) (by simp) (.int .i64 bx) (.int .i64 b2) 23) (w.heap.size + 1 + 1) (by simp) (.int .i64 cx) (.int .i64 cy) 23) (w.heap.size + 1 + 1 + 1) (by simp) (.int .i64 dx) (.int .i64 dy) 23
  have r0 : IntKind.i64.wrap (-turnI ax ay bx b2 cx cy) = -turnI ax ay bx b2 cx cy := by have := turnI_bd ax ay bx b2 cx cy; exact IntWalk.i64_in _ (by omega)
  have r1 := turnI_swap ax ay bx b2 cx cy
  have r2 := turnI_rot ax ay bx b2 cx cy
  have r3 := crossB_round ax ay bx b2 cx cy dx dy
  have r4 := onB_swap ax ay bx b2 cx cy
  have r5 := onB_left ax ay bx b2
  have q1 := neq_range_nil
  have q2 := neq_nil_nil
  go_enter Try.func5, Try.ntmps5
  go_wp2_with (first | (go_at_call 6; refine (up_any _).mono ?_; rintro e w1 ⟨rfl, hb1⟩; have K1 := Kp.keep8 hb1 (by assumption); clear hb1) | (go_at_call 8; refine (may_any _ _ _).mono ?_; rintro e w1 ⟨rfl, hb1⟩; have K1 := Kp.keep8 hb1 (by assumption); clear hb1) | (go_at_call 9; refine (turn_any _ _ _ _ _ _ _ (by assumption) (by assumption) (by assumption)).mono ?_; rintro e w1 ⟨rfl, hb1⟩; have K1 := Kp.keep8 hb1 (by assumption); clear hb1))
  go_region_held3 (fun W => W.cell? ⟨w.heap.size, 0, none⟩ = some (.int .i64 ax) ∧ W.cell? ⟨w.heap.size, 1, none⟩ = some (.int .i64 ay) ∧ W.cell? ⟨w.heap.size + 1, 0, none⟩ = some (.int .i64 bx) ∧ W.cell? ⟨w.heap.size + 1, 1, none⟩ = some (.int .i64 b2) ∧ W.cell? ⟨w.heap.size + 1 + 1, 0, none⟩ = some (.int .i64 cx) ∧ W.cell? ⟨w.heap.size + 1 + 1, 1, none⟩ = some (.int .i64 cy) ∧ W.cell? ⟨w.heap.size + 1 + 1 + 1, 0, none⟩ = some (.int .i64 dx) ∧ W.cell? ⟨w.heap.size + 1 + 1 + 1, 1, none⟩ = some (.int .i64 dy) ∧ w.heap.size ≤ W.heap.size ∧ Below w.heap.size w W)
    (first | exact Kp.drew8 (by assumption) | exact Kp.keep8 (by assumption) (by assumption))
    (first | (go_at_call 9; refine (turn_any _ _ _ _ _ _ _ (by assumption) (by assumption) (by assumption)).mono ?_; rintro e w1 ⟨rfl, hb1⟩) | (go_at_call 11; refine (on_any _ _ _ _ _ _ _ (by assumption) (by assumption) (by assumption)).mono ?_; rintro e w1 ⟨rfl, hb1⟩) | (go_at_call 13; refine (cross_any _ _ _ _ _ _ _ _ _ (by assumption) (by assumption) (by assumption) (by assumption)).mono ?_; rintro e w1 ⟨rfl, hb1⟩))
  rename_i H0
  go_wp2_with fail
  refine (add_no3 _ _ _ _ _ (by assumption) (by assumption) s1).mono ?_
  rintro e u0 ⟨rfl, hb0⟩
  have M0 := Kp.keep8 hb0 H0; clear hb0
  have H1 := Kp.add8 M0 u0.heap.size rfl (.int .i64 0) (.int .i64 0) 23
  go_wp2_with fail
  refine (add_any _ _ _ _ _ (by assumption) (by assumption)).mono ?_
  rintro e u1 ⟨rfl, hb1⟩
  have M1 := Kp.keep10 hb1 H1; clear hb1
  have H2 := Kp.add10 M1 u1.heap.size rfl (.int .i64 (addV (mayB (bx + dx) (b2 + dy)) (bx + dx))) (.int .i64 (addV (mayB (bx + dx) (b2 + dy)) (b2 + dy))) 23
  go_wp2_with fail
  refine (add_any _ _ _ _ _ (by assumption) (by assumption)).mono ?_
  rintro e u2 ⟨rfl, hb2⟩
  have M2 := Kp.keep12 hb2 H2; clear hb2
  have H3 := Kp.add12 M2 u2.heap.size rfl (.int .i64 (addV (mayB (cx + dx) (cy + dy)) (cx + dx))) (.int .i64 (addV (mayB (cx + dx) (cy + dy)) (cy + dy))) 23
  go_wp2_with fail
  go_ret
  exact ⟨rfl, Kp.end14 (by assumption)⟩

set_option maxHeartbeats 4000000 in
set_option maxRecDepth 100000 in
theorem turns_add2 (ax ay bx b2 cx cy dx dy : Int) (w : World) (h1 : mayB ax ay = true) (h2 : mayB bx b2 = true) (h3 : mayB cx cy = true) (h4 : mayB dx dy = true) (s1 : mayB (ax + dx) (ay + dy) = true) (s2 : mayB (bx + dx) (b2 + dy) = false) :
    Calls Try.prog 5 #[.agg #[.int .i64 ax, .int .i64 ay], .agg #[.int .i64 bx, .int .i64 b2], .agg #[.int .i64 cx, .int .i64 cy], .agg #[.int .i64 dx, .int .i64 dy]] w fun e w' => e = .returned (.bool true) ∧ Below w.heap.size w w' := by
  have L := Kp.add6 (Kp.add4 (Kp.add2 (Kp.add0 ⟨Nat.le_refl _, Below.refl w.heap.size w⟩ w.heap.size rfl (.int .i64 ax) (.int .i64 ay) 23) (w.heap.size + 1) (by simp) (.int .i64 bx) (.int .i64 b2) 23) (w.heap.size + 1 + 1) (by simp) (.int .i64 cx) (.int .i64 cy) 23) (w.heap.size + 1 + 1 + 1) (by simp) (.int .i64 dx) (.int .i64 dy) 23
  have r0 : IntKind.i64.wrap (-turnI ax ay bx b2 cx cy) = -turnI ax ay bx b2 cx cy := by have := turnI_bd ax ay bx b2 cx cy; exact IntWalk.i64_in _ (by omega)
  have r1 := turnI_swap ax ay bx b2 cx cy
  have r2 := turnI_rot ax ay bx b2 cx cy
  have r3 := crossB_round ax ay bx b2 cx cy dx dy
  have r4 := onB_swap ax ay bx b2 cx cy
  have r5 := onB_left ax ay bx b2
  have q1 := neq_range_nil
  have q2 := neq_nil_nil
  go_enter Try.func5, Try.ntmps5
  go_wp2_with (first | (go_at_call 6; refine (up_any _).mono ?_; rintro e w1 ⟨rfl, hb1⟩; have K1 := Kp.keep8 hb1 (by assumption); clear hb1) | (go_at_call 8; refine (may_any _ _ _).mono ?_; rintro e w1 ⟨rfl, hb1⟩; have K1 := Kp.keep8 hb1 (by assumption); clear hb1) | (go_at_call 9; refine (turn_any _ _ _ _ _ _ _ (by assumption) (by assumption) (by assumption)).mono ?_; rintro e w1 ⟨rfl, hb1⟩; have K1 := Kp.keep8 hb1 (by assumption); clear hb1))
  go_region_held3 (fun W => W.cell? ⟨w.heap.size, 0, none⟩ = some (.int .i64 ax) ∧ W.cell? ⟨w.heap.size, 1, none⟩ = some (.int .i64 ay) ∧ W.cell? ⟨w.heap.size + 1, 0, none⟩ = some (.int .i64 bx) ∧ W.cell? ⟨w.heap.size + 1, 1, none⟩ = some (.int .i64 b2) ∧ W.cell? ⟨w.heap.size + 1 + 1, 0, none⟩ = some (.int .i64 cx) ∧ W.cell? ⟨w.heap.size + 1 + 1, 1, none⟩ = some (.int .i64 cy) ∧ W.cell? ⟨w.heap.size + 1 + 1 + 1, 0, none⟩ = some (.int .i64 dx) ∧ W.cell? ⟨w.heap.size + 1 + 1 + 1, 1, none⟩ = some (.int .i64 dy) ∧ w.heap.size ≤ W.heap.size ∧ Below w.heap.size w W)
    (first | exact Kp.drew8 (by assumption) | exact Kp.keep8 (by assumption) (by assumption))
    (first | (go_at_call 9; refine (turn_any _ _ _ _ _ _ _ (by assumption) (by assumption) (by assumption)).mono ?_; rintro e w1 ⟨rfl, hb1⟩) | (go_at_call 11; refine (on_any _ _ _ _ _ _ _ (by assumption) (by assumption) (by assumption)).mono ?_; rintro e w1 ⟨rfl, hb1⟩) | (go_at_call 13; refine (cross_any _ _ _ _ _ _ _ _ _ (by assumption) (by assumption) (by assumption) (by assumption)).mono ?_; rintro e w1 ⟨rfl, hb1⟩))
  rename_i H0
  go_wp2_with fail
  refine (add_ok _ _ _ _ _ (by assumption) (by assumption) s1).mono ?_
  rintro e u0 ⟨rfl, hb0⟩
  have M0 := Kp.keep8 hb0 H0; clear hb0
  have H1 := Kp.add8 M0 u0.heap.size rfl (.int .i64 (ax + dx)) (.int .i64 (ay + dy)) 23
  go_wp2_with fail
  refine (add_no3 _ _ _ _ _ (by assumption) (by assumption) s2).mono ?_
  rintro e u1 ⟨rfl, hb1⟩
  have M1 := Kp.keep10 hb1 H1; clear hb1
  have H2 := Kp.add10 M1 u1.heap.size rfl (.int .i64 0) (.int .i64 0) 23
  go_wp2_with fail
  refine (add_any _ _ _ _ _ (by assumption) (by assumption)).mono ?_
  rintro e u2 ⟨rfl, hb2⟩
  have M2 := Kp.keep12 hb2 H2; clear hb2
  have H3 := Kp.add12 M2 u2.heap.size rfl (.int .i64 (addV (mayB (cx + dx) (cy + dy)) (cx + dx))) (.int .i64 (addV (mayB (cx + dx) (cy + dy)) (cy + dy))) 23
  go_wp2_with fail
  go_ret
  exact ⟨rfl, Kp.end14 (by assumption)⟩

set_option maxHeartbeats 4000000 in
set_option maxRecDepth 100000 in
theorem turns_add3 (ax ay bx b2 cx cy dx dy : Int) (w : World) (h1 : mayB ax ay = true) (h2 : mayB bx b2 = true) (h3 : mayB cx cy = true) (h4 : mayB dx dy = true) (s1 : mayB (ax + dx) (ay + dy) = true) (s2 : mayB (bx + dx) (b2 + dy) = true) (s3 : mayB (cx + dx) (cy + dy) = false) :
    Calls Try.prog 5 #[.agg #[.int .i64 ax, .int .i64 ay], .agg #[.int .i64 bx, .int .i64 b2], .agg #[.int .i64 cx, .int .i64 cy], .agg #[.int .i64 dx, .int .i64 dy]] w fun e w' => e = .returned (.bool true) ∧ Below w.heap.size w w' := by
  have L := Kp.add6 (Kp.add4 (Kp.add2 (Kp.add0 ⟨Nat.le_refl _, Below.refl w.heap.size w⟩ w.heap.size rfl (.int .i64 ax) (.int .i64 ay) 23) (w.heap.size + 1) (by simp) (.int .i64 bx) (.int .i64 b2) 23) (w.heap.size + 1 + 1) (by simp) (.int .i64 cx) (.int .i64 cy) 23) (w.heap.size + 1 + 1 + 1) (by simp) (.int .i64 dx) (.int .i64 dy) 23
  have r0 : IntKind.i64.wrap (-turnI ax ay bx b2 cx cy) = -turnI ax ay bx b2 cx cy := by have := turnI_bd ax ay bx b2 cx cy; exact IntWalk.i64_in _ (by omega)
  have r1 := turnI_swap ax ay bx b2 cx cy
  have r2 := turnI_rot ax ay bx b2 cx cy
  have r3 := crossB_round ax ay bx b2 cx cy dx dy
  have r4 := onB_swap ax ay bx b2 cx cy
  have r5 := onB_left ax ay bx b2
  have q1 := neq_range_nil
  have q2 := neq_nil_nil
  go_enter Try.func5, Try.ntmps5
  go_wp2_with (first | (go_at_call 6; refine (up_any _).mono ?_; rintro e w1 ⟨rfl, hb1⟩; have K1 := Kp.keep8 hb1 (by assumption); clear hb1) | (go_at_call 8; refine (may_any _ _ _).mono ?_; rintro e w1 ⟨rfl, hb1⟩; have K1 := Kp.keep8 hb1 (by assumption); clear hb1) | (go_at_call 9; refine (turn_any _ _ _ _ _ _ _ (by assumption) (by assumption) (by assumption)).mono ?_; rintro e w1 ⟨rfl, hb1⟩; have K1 := Kp.keep8 hb1 (by assumption); clear hb1))
  go_region_held3 (fun W => W.cell? ⟨w.heap.size, 0, none⟩ = some (.int .i64 ax) ∧ W.cell? ⟨w.heap.size, 1, none⟩ = some (.int .i64 ay) ∧ W.cell? ⟨w.heap.size + 1, 0, none⟩ = some (.int .i64 bx) ∧ W.cell? ⟨w.heap.size + 1, 1, none⟩ = some (.int .i64 b2) ∧ W.cell? ⟨w.heap.size + 1 + 1, 0, none⟩ = some (.int .i64 cx) ∧ W.cell? ⟨w.heap.size + 1 + 1, 1, none⟩ = some (.int .i64 cy) ∧ W.cell? ⟨w.heap.size + 1 + 1 + 1, 0, none⟩ = some (.int .i64 dx) ∧ W.cell? ⟨w.heap.size + 1 + 1 + 1, 1, none⟩ = some (.int .i64 dy) ∧ w.heap.size ≤ W.heap.size ∧ Below w.heap.size w W)
    (first | exact Kp.drew8 (by assumption) | exact Kp.keep8 (by assumption) (by assumption))
    (first | (go_at_call 9; refine (turn_any _ _ _ _ _ _ _ (by assumption) (by assumption) (by assumption)).mono ?_; rintro e w1 ⟨rfl, hb1⟩) | (go_at_call 11; refine (on_any _ _ _ _ _ _ _ (by assumption) (by assumption) (by assumption)).mono ?_; rintro e w1 ⟨rfl, hb1⟩) | (go_at_call 13; refine (cross_any _ _ _ _ _ _ _ _ _ (by assumption) (by assumption) (by assumption) (by assumption)).mono ?_; rintro e w1 ⟨rfl, hb1⟩))
  rename_i H0
  go_wp2_with fail
  refine (add_ok _ _ _ _ _ (by assumption) (by assumption) s1).mono ?_
  rintro e u0 ⟨rfl, hb0⟩
  have M0 := Kp.keep8 hb0 H0; clear hb0
  have H1 := Kp.add8 M0 u0.heap.size rfl (.int .i64 (ax + dx)) (.int .i64 (ay + dy)) 23
  go_wp2_with fail
  refine (add_ok _ _ _ _ _ (by assumption) (by assumption) s2).mono ?_
  rintro e u1 ⟨rfl, hb1⟩
  have M1 := Kp.keep10 hb1 H1; clear hb1
  have H2 := Kp.add10 M1 u1.heap.size rfl (.int .i64 (bx + dx)) (.int .i64 (b2 + dy)) 23
  go_wp2_with fail
  refine (add_no3 _ _ _ _ _ (by assumption) (by assumption) s3).mono ?_
  rintro e u2 ⟨rfl, hb2⟩
  have M2 := Kp.keep12 hb2 H2; clear hb2
  have H3 := Kp.add12 M2 u2.heap.size rfl (.int .i64 0) (.int .i64 0) 23
  go_wp2_with fail
  go_ret
  exact ⟨rfl, Kp.end14 (by assumption)⟩

set_option maxHeartbeats 4000000 in
set_option maxRecDepth 100000 in
theorem turns_yes (ax ay bx b2 cx cy dx dy : Int) (w : World) (h1 : mayB ax ay = true) (h2 : mayB bx b2 = true) (h3 : mayB cx cy = true) (h4 : mayB dx dy = true) (s1 : mayB (ax + dx) (ay + dy) = true) (s2 : mayB (bx + dx) (b2 + dy) = true) (s3 : mayB (cx + dx) (cy + dy) = true) :
    Calls Try.prog 5 #[.agg #[.int .i64 ax, .int .i64 ay], .agg #[.int .i64 bx, .int .i64 b2], .agg #[.int .i64 cx, .int .i64 cy], .agg #[.int .i64 dx, .int .i64 dy]] w fun e w' => e = .returned (.bool true) ∧ Below w.heap.size w w' := by
  have L := Kp.add6 (Kp.add4 (Kp.add2 (Kp.add0 ⟨Nat.le_refl _, Below.refl w.heap.size w⟩ w.heap.size rfl (.int .i64 ax) (.int .i64 ay) 23) (w.heap.size + 1) (by simp) (.int .i64 bx) (.int .i64 b2) 23) (w.heap.size + 1 + 1) (by simp) (.int .i64 cx) (.int .i64 cy) 23) (w.heap.size + 1 + 1 + 1) (by simp) (.int .i64 dx) (.int .i64 dy) 23
  have r0 : IntKind.i64.wrap (-turnI ax ay bx b2 cx cy) = -turnI ax ay bx b2 cx cy := by have := turnI_bd ax ay bx b2 cx cy; exact IntWalk.i64_in _ (by omega)
  have r1 := turnI_swap ax ay bx b2 cx cy
  have r2 := turnI_rot ax ay bx b2 cx cy
  have r3 := crossB_round ax ay bx b2 cx cy dx dy
  have r4 := onB_swap ax ay bx b2 cx cy
  have r5 := onB_left ax ay bx b2
  have q1 := neq_range_nil
  have q2 := neq_nil_nil
  have r6 := turnI_move ax ay bx b2 cx cy dx dy
  have r7 := onB_move ax ay bx b2 cx cy dx dy
  go_enter Try.func5, Try.ntmps5
  go_wp2_with (first | (go_at_call 6; refine (up_any _).mono ?_; rintro e w1 ⟨rfl, hb1⟩; have K1 := Kp.keep8 hb1 (by assumption); clear hb1) | (go_at_call 8; refine (may_any _ _ _).mono ?_; rintro e w1 ⟨rfl, hb1⟩; have K1 := Kp.keep8 hb1 (by assumption); clear hb1) | (go_at_call 9; refine (turn_any _ _ _ _ _ _ _ (by assumption) (by assumption) (by assumption)).mono ?_; rintro e w1 ⟨rfl, hb1⟩; have K1 := Kp.keep8 hb1 (by assumption); clear hb1))
  go_region_held3 (fun W => W.cell? ⟨w.heap.size, 0, none⟩ = some (.int .i64 ax) ∧ W.cell? ⟨w.heap.size, 1, none⟩ = some (.int .i64 ay) ∧ W.cell? ⟨w.heap.size + 1, 0, none⟩ = some (.int .i64 bx) ∧ W.cell? ⟨w.heap.size + 1, 1, none⟩ = some (.int .i64 b2) ∧ W.cell? ⟨w.heap.size + 1 + 1, 0, none⟩ = some (.int .i64 cx) ∧ W.cell? ⟨w.heap.size + 1 + 1, 1, none⟩ = some (.int .i64 cy) ∧ W.cell? ⟨w.heap.size + 1 + 1 + 1, 0, none⟩ = some (.int .i64 dx) ∧ W.cell? ⟨w.heap.size + 1 + 1 + 1, 1, none⟩ = some (.int .i64 dy) ∧ w.heap.size ≤ W.heap.size ∧ Below w.heap.size w W)
    (first | exact Kp.drew8 (by assumption) | exact Kp.keep8 (by assumption) (by assumption))
    (first | (go_at_call 9; refine (turn_any _ _ _ _ _ _ _ (by assumption) (by assumption) (by assumption)).mono ?_; rintro e w1 ⟨rfl, hb1⟩) | (go_at_call 11; refine (on_any _ _ _ _ _ _ _ (by assumption) (by assumption) (by assumption)).mono ?_; rintro e w1 ⟨rfl, hb1⟩) | (go_at_call 13; refine (cross_any _ _ _ _ _ _ _ _ _ (by assumption) (by assumption) (by assumption) (by assumption)).mono ?_; rintro e w1 ⟨rfl, hb1⟩))
  rename_i H0
  go_wp2_with fail
  refine (add_ok _ _ _ _ _ (by assumption) (by assumption) s1).mono ?_
  rintro e u0 ⟨rfl, hb0⟩
  have M0 := Kp.keep8 hb0 H0; clear hb0
  have H1 := Kp.add8 M0 u0.heap.size rfl (.int .i64 (ax + dx)) (.int .i64 (ay + dy)) 23
  go_wp2_with fail
  refine (add_ok _ _ _ _ _ (by assumption) (by assumption) s2).mono ?_
  rintro e u1 ⟨rfl, hb1⟩
  have M1 := Kp.keep10 hb1 H1; clear hb1
  have H2 := Kp.add10 M1 u1.heap.size rfl (.int .i64 (bx + dx)) (.int .i64 (b2 + dy)) 23
  go_wp2_with fail
  refine (add_ok _ _ _ _ _ (by assumption) (by assumption) s3).mono ?_
  rintro e u2 ⟨rfl, hb2⟩
  have M2 := Kp.keep12 hb2 H2; clear hb2
  have H3 := Kp.add12 M2 u2.heap.size rfl (.int .i64 (cx + dx)) (.int .i64 (cy + dy)) 23
  go_wp2_with fail
  go_region_held3 (fun W => W.cell? ⟨w.heap.size, 0, none⟩ = some (.int .i64 (ax)) ∧ W.cell? ⟨w.heap.size, 1, none⟩ = some (.int .i64 (ay)) ∧ W.cell? ⟨w.heap.size + 1, 0, none⟩ = some (.int .i64 (bx)) ∧ W.cell? ⟨w.heap.size + 1, 1, none⟩ = some (.int .i64 (b2)) ∧ W.cell? ⟨w.heap.size + 1 + 1, 0, none⟩ = some (.int .i64 (cx)) ∧ W.cell? ⟨w.heap.size + 1 + 1, 1, none⟩ = some (.int .i64 (cy)) ∧ W.cell? ⟨w.heap.size + 1 + 1 + 1, 0, none⟩ = some (.int .i64 (dx)) ∧ W.cell? ⟨w.heap.size + 1 + 1 + 1, 1, none⟩ = some (.int .i64 (dy)) ∧ W.cell? ⟨u0.heap.size, 0, none⟩ = some (.int .i64 (ax + dx)) ∧ W.cell? ⟨u0.heap.size, 1, none⟩ = some (.int .i64 (ay + dy)) ∧ W.cell? ⟨u1.heap.size, 0, none⟩ = some (.int .i64 (bx + dx)) ∧ W.cell? ⟨u1.heap.size, 1, none⟩ = some (.int .i64 (b2 + dy)) ∧ W.cell? ⟨u2.heap.size, 0, none⟩ = some (.int .i64 (cx + dx)) ∧ W.cell? ⟨u2.heap.size, 1, none⟩ = some (.int .i64 (cy + dy)) ∧ w.heap.size ≤ W.heap.size ∧ Below w.heap.size w W)
    (first | exact Kp.drew14 (by assumption) | exact Kp.keep14 (by assumption) (by assumption))
    (first | (go_at_call 9; refine (turn_any _ _ _ _ _ _ _ (by assumption) (by assumption) (by assumption)).mono ?_; rintro e w1 ⟨rfl, hb1⟩) | (go_at_call 11; refine (on_any _ _ _ _ _ _ _ (by assumption) (by assumption) (by assumption)).mono ?_; rintro e w1 ⟨rfl, hb1⟩))
  go_wp2_with fail
  go_ret
  exact ⟨rfl, Kp.end14 (by assumption)⟩

theorem turns_any (ax ay bx b2 cx cy dx dy : Int) (w : World)  :
    Calls Try.prog 5 #[.agg #[.int .i64 ax, .int .i64 ay], .agg #[.int .i64 bx, .int .i64 b2], .agg #[.int .i64 cx, .int .i64 cy], .agg #[.int .i64 dx, .int .i64 dy]] w fun e w' => e = .returned (.bool true) ∧ Below w.heap.size w w' := by
  cases h1 : mayB ax ay
  · exact turns_no1 ax ay bx b2 cx cy dx dy w h1
  cases h2 : mayB bx b2
  · exact turns_no2 ax ay bx b2 cx cy dx dy w h1 h2
  cases h3 : mayB cx cy
  · exact turns_no3 ax ay bx b2 cx cy dx dy w h1 h2 h3
  cases h4 : mayB dx dy
  · exact turns_no4 ax ay bx b2 cx cy dx dy w h1 h2 h3 h4
  cases s1 : mayB (ax + dx) (ay + dy)
  · exact turns_add1 ax ay bx b2 cx cy dx dy w h1 h2 h3 h4 s1
  cases s2 : mayB (bx + dx) (b2 + dy)
  · exact turns_add2 ax ay bx b2 cx cy dx dy w h1 h2 h3 h4 s1 s2
  cases s3 : mayB (cx + dx) (cy + dy)
  · exact turns_add3 ax ay bx b2 cx cy dx dy w h1 h2 h3 h4 s1 s2 s3
  exact turns_yes ax ay bx b2 cx cy dx dy w h1 h2 h3 h4 s1 s2 s3
end Go.Proofs.Ytjdeoneefgoaaaa.Pt
