/-
  The walk of the statement MortonCells: whatever shift, point, column and row it is given, it returns true, and memory that was there is left as it was.
-/
import Derived.Test.YteldmacgbdlmiaaMoUp
import Derived.Test.YteldmacgbdlmiaaMoCell
import Derived.Test.YteldmacgbdlmiaaMoBox
import Derived.Test.YteldmacgbdlmiaaMoRefS
namespace Go.Proofs.Yteldmacgbdlmiaa.Mo
open Go.RowKit Go.Proofs.Yteldmacgbdlmiaa.Pt Go.Proofs.Yteldmacgbdlmiaa.Rc

set_option maxHeartbeats 1000000 in
set_option maxRecDepth 100000 in
theorem cells_arg (s : Int) (x y c r : Int) (w : World) (h : shB s = false) :
    Calls Try.prog 3 #[.int .i64 s, .agg #[.int .i64 x, .int .i64 y], .int .i64 c, .int .i64 r] w fun e w' => e = .returned (.bool true) ∧ Below w.heap.size w w' := by
  have L := Lib.hid (Kp.add0 ⟨Nat.le_refl _, Below.refl w.heap.size w⟩ w.heap.size rfl (.int .i64 x) (.int .i64 y) 23)
  have q1 := eql_arg
  have q2 := neq_arg
  have q3 := neq_range
  have q4 := neq_nil_nil
  have q5 := eql_nil_nil
  have h0 := sdI_no h
  have Cc := (fun W => cell_arg s x y W h)
  have Cb := (fun W => box_no s c r W (by rw [h0, belB_zero]; rfl))
  have Cs := side_any s
  rw [h0] at Cs
  clear h0
  go_enter Try.func3, Try.ntmps3
  go_wp2_with (first | (go_at_call 6; refine (up_any _).mono ?_; rintro e w' ⟨rfl, rfl⟩) | (go_at_call 7; refine (refShift_any _ _).mono ?_; rintro e w' ⟨rfl, rfl⟩))
  refine (Cc _).mono ?_
  rintro e w1 ⟨rfl, hb1⟩
  have K1 := Kp.keep2 hb1 L.out
  clear hb1 L
  go_wp2_with fail
  refine (Cb _).mono ?_
  rintro e w2 ⟨rfl, hb2⟩
  have K2 := Kp.adq2 (Kp.keep2 hb2 K1) w2.heap.size rfl (.int .i64 0) (.int .i64 0) (.int .i64 0) (.int .i64 0) 31
  clear hb2 K1
  go_wp2_with (first | (go_at_call 10; refine (Cs _).mono ?_; rintro e w' ⟨rfl, rfl⟩))
  go_ret
  exact ⟨rfl, Kp.end6 K2⟩

set_option maxHeartbeats 1000000 in
set_option maxRecDepth 100000 in
theorem cells_far_out (k : Nat) (x y c r : Int) (w : World) (h1 : 24 ≤ k) (h2 : k ≤ 31) (hm : mayB x y = false) (hb : (belB c (sideI k) && belB r (sideI k)) = false) :
    Calls Try.prog 3 #[.int .i64 k, .agg #[.int .i64 x, .int .i64 y], .int .i64 c, .int .i64 r] w fun e w' => e = .returned (.bool true) ∧ Below w.heap.size w w' := by
  have L := Lib.hid (Kp.add0 ⟨Nat.le_refl _, Below.refl w.heap.size w⟩ w.heap.size rfl (.int .i64 x) (.int .i64 y) 23)
  have q1 := eql_arg
  have q2 := neq_arg
  have q3 := neq_range
  have q4 := neq_nil_nil
  have q5 := eql_nil_nil
  have h := shB_of h1 h2
  have Cs := side_any k
  have Cr := fun W => refSide_any k W h1 h2
  rw [sdI_yes h1 h2] at Cs
  have Cc := fun W => cell_far k x y W h hm
  have Cb := fun W => box_no k c r W (by rw [sdI_yes h1 h2]; exact hb)
  obtain ⟨sd, hsd⟩ : ∃ sd, sd = sideI k := ⟨_, rfl⟩
  rw [← hsd] at Cs Cr
  have hh : c < 0 ∨ (¬ c < 0 ∧ (r < 0 ∨ (¬ r < 0 ∧ (sd ≤ c ∨ (¬ sd ≤ c ∧ sd ≤ r))))) := by
    rw [← hsd] at hb
    cases hc : belB c sd
    · have : ¬ (0 ≤ c ∧ c < sd) := fun h => by rw [belB_iff.2 h] at hc; cases hc
      omega
    · rw [hc, Bool.true_and] at hb
      have : ¬ (0 ≤ r ∧ r < sd) := fun h => by rw [belB_iff.2 h] at hb; cases hb
      omega
  clear hsd hb
  go_enter Try.func3, Try.ntmps3
  go_wp2_with (first | (go_at_call 6; refine (up_any _).mono ?_; rintro e w' ⟨rfl, rfl⟩) | (go_at_call 7; refine (refShift_any _ _).mono ?_; rintro e w' ⟨rfl, rfl⟩))
  refine (Cc _).mono ?_
  rintro e w1 ⟨rfl, hb1⟩
  have K1 := Kp.keep2 hb1 L.out
  clear hb1 L
  go_wp2_with fail
  refine (Cb _).mono ?_
  rintro e w2 ⟨rfl, hb2⟩
  have K2 := Kp.adq2 (Kp.keep2 hb2 K1) w2.heap.size rfl (.int .i64 0) (.int .i64 0) (.int .i64 0) (.int .i64 0) 31
  clear hb2 K1
  go_wp2_with (first | (go_at_call 10; refine (Cs _).mono ?_; rintro e w' ⟨rfl, rfl⟩) | (go_at_call 11; refine (Cr _).mono ?_; rintro e w' ⟨rfl, rfl⟩))
  refine (Pt.refMay_any _ _ _).mono ?_
  rintro e w3 ⟨rfl, hb3⟩
  have K3 := Kp.keep6 hb3 K2
  clear hb3 K2
  rcases hh with g | ⟨g1, g | ⟨g2, g | ⟨g3, g⟩⟩⟩
  all_goals
    go_wp2_with (first | (go_at_call 13; refine (refCell_any k _ _ h1 h2 (by assumption)).mono ?_; rintro e w' ⟨rfl, rfl⟩))
    go_ret
    exact ⟨rfl, Kp.end6 K3⟩

set_option maxHeartbeats 1000000 in
set_option maxRecDepth 100000 in
theorem cells_far_in (k : Nat) (x y c r : Int) (w : World) (h1 : 24 ≤ k) (h2 : k ≤ 31) (hm : mayB x y = false) (hc : belB c (sideI k) = true) (hr : belB r (sideI k) = true) :
    Calls Try.prog 3 #[.int .i64 k, .agg #[.int .i64 x, .int .i64 y], .int .i64 c, .int .i64 r] w fun e w' => e = .returned (.bool true) ∧ Below w.heap.size w w' := by
  have L := Lib.hid (Kp.add0 ⟨Nat.le_refl _, Below.refl w.heap.size w⟩ w.heap.size rfl (.int .i64 x) (.int .i64 y) 23)
  have q1 := eql_arg
  have q2 := neq_arg
  have q3 := neq_range
  have q4 := neq_nil_nil
  have q5 := eql_nil_nil
  have h := shB_of h1 h2
  have Cs := side_any k
  have Cr := fun W => refSide_any k W h1 h2
  rw [sdI_yes h1 h2] at Cs
  have Cc := fun W => cell_far k x y W h hm
  have Cb := fun W => box_yes k c r W h1 h2 hc hr
  have Cx := Lib.hid (fun W => refBox_any k c r W h1 h2 hc hr)
  obtain ⟨c1, c2⟩ := belB_iff.1 hc
  obtain ⟨d1, d2⟩ := belB_iff.1 hr
  have c3 : ¬ c < 0 := by omega
  have d3 : ¬ r < 0 := by omega
  obtain ⟨sd, hsd⟩ : ∃ sd, sd = sideI k := ⟨_, rfl⟩
  rw [← hsd] at Cs Cr c2 d2
  clear hsd hc hr
  go_enter Try.func3, Try.ntmps3
  go_wp2_with (first | (go_at_call 6; refine (up_any _).mono ?_; rintro e w' ⟨rfl, rfl⟩) | (go_at_call 7; refine (refShift_any _ _).mono ?_; rintro e w' ⟨rfl, rfl⟩))
  refine (Cc _).mono ?_
  rintro e w1 ⟨rfl, hb1⟩
  have K1 := Kp.keep2 hb1 L.out
  clear hb1 L
  go_wp2_with fail
  refine (Cb _).mono ?_
  rintro e w2 ⟨rfl, hb2⟩
  have K2 := Kp.adq2 (Kp.keep2 hb2 K1) w2.heap.size rfl (.int .i64 (firI k c)) (.int .i64 (firI k r)) (.int .i64 (lasI k c)) (.int .i64 (lasI k r)) 31
  clear hb2 K1
  go_wp2_with (first | (go_at_call 10; refine (Cs _).mono ?_; rintro e w' ⟨rfl, rfl⟩) | (go_at_call 11; refine (Cr _).mono ?_; rintro e w' ⟨rfl, rfl⟩))
  refine (Pt.refMay_any _ _ _).mono ?_
  rintro e w3 ⟨rfl, hb3⟩
  have K3 := Kp.keep6 hb3 K2
  clear hb3 K2
  go_wp2_with (first | (go_at_call 13; refine (refCell_any k _ _ h1 h2 (by assumption)).mono ?_; rintro e w' ⟨rfl, rfl⟩))
  go_region_held3 (fun W => W.cell? ⟨w.heap.size, 0, none⟩ = some (.int .i64 x) ∧ W.cell? ⟨w.heap.size, 1, none⟩ = some (.int .i64 y) ∧ W.cell? ⟨w2.heap.size, 0, none⟩ = some (.int .i64 (firI k c)) ∧ W.cell? ⟨w2.heap.size, 1, none⟩ = some (.int .i64 (firI k r)) ∧ W.cell? ⟨w2.heap.size, 2, none⟩ = some (.int .i64 (lasI k c)) ∧ W.cell? ⟨w2.heap.size, 3, none⟩ = some (.int .i64 (lasI k r)) ∧ w.heap.size ≤ W.heap.size ∧ Below w.heap.size w W)
    (first | exact Kp.drew6 (by assumption) | exact Kp.keep6 (by assumption) (by assumption))
    (first | (go_at_call 14; refine (Cx.out _).mono ?_; rintro e w4 ⟨rfl, hb4⟩))
  go_wp2_with fail
  go_ret
  exact ⟨rfl, Kp.end6 (by assumption)⟩

set_option maxHeartbeats 1000000 in
set_option maxRecDepth 100000 in
theorem cells_may_out (k : Nat) (x y c r : Int) (w : World) (h1 : 24 ≤ k) (h2 : k ≤ 31) (hm : mayB x y = true) (hb : (belB c (sideI k) && belB r (sideI k)) = false) :
    Calls Try.prog 3 #[.int .i64 k, .agg #[.int .i64 x, .int .i64 y], .int .i64 c, .int .i64 r] w fun e w' => e = .returned (.bool true) ∧ Below w.heap.size w w' := by
  have L := Lib.hid (Kp.add0 ⟨Nat.le_refl _, Below.refl w.heap.size w⟩ w.heap.size rfl (.int .i64 x) (.int .i64 y) 23)
  have q1 := eql_arg
  have q2 := neq_arg
  have q3 := neq_range
  have q4 := neq_nil_nil
  have q5 := eql_nil_nil
  have h := shB_of h1 h2
  have Cs := side_any k
  have Cr := fun W => refSide_any k W h1 h2
  rw [sdI_yes h1 h2] at Cs
  have Cc := fun W => cell_yes k x y W h1 h2 hm
  have Cb := fun W => box_no k c r W (by rw [sdI_yes h1 h2]; exact hb)
  obtain ⟨r1, r2⟩ := mayB_bd hm
  obtain ⟨sd, hsd⟩ : ∃ sd, sd = sideI k := ⟨_, rfl⟩
  rw [← hsd] at Cs Cr
  have hh : c < 0 ∨ (¬ c < 0 ∧ (r < 0 ∨ (¬ r < 0 ∧ (sd ≤ c ∨ (¬ sd ≤ c ∧ sd ≤ r))))) := by
    rw [← hsd] at hb
    cases hc : belB c sd
    · have : ¬ (0 ≤ c ∧ c < sd) := fun h => by rw [belB_iff.2 h] at hc; cases hc
      omega
    · rw [hc, Bool.true_and] at hb
      have : ¬ (0 ≤ r ∧ r < sd) := fun h => by rw [belB_iff.2 h] at hb; cases hb
      omega
  clear hsd hb
  go_enter Try.func3, Try.ntmps3
  go_wp2_with (first | (go_at_call 6; refine (up_any _).mono ?_; rintro e w' ⟨rfl, rfl⟩) | (go_at_call 7; refine (refShift_any _ _).mono ?_; rintro e w' ⟨rfl, rfl⟩))
  refine (Cc _).mono ?_
  rintro e w1 ⟨rfl, hb1⟩
  have K1 := Kp.keep2 hb1 L.out
  clear hb1 L
  go_wp2_with fail
  refine (Cb _).mono ?_
  rintro e w2 ⟨rfl, hb2⟩
  have K2 := Kp.adq2 (Kp.keep2 hb2 K1) w2.heap.size rfl (.int .i64 0) (.int .i64 0) (.int .i64 0) (.int .i64 0) 31
  clear hb2 K1
  go_wp2_with (first | (go_at_call 10; refine (Cs _).mono ?_; rintro e w' ⟨rfl, rfl⟩) | (go_at_call 11; refine (Cr _).mono ?_; rintro e w' ⟨rfl, rfl⟩))
  refine (Pt.refMay_any _ _ _).mono ?_
  rintro e w3 ⟨rfl, hb3⟩
  have K3 := Kp.keep6 hb3 K2
  clear hb3 K2
  rcases hh with g | ⟨g1, g | ⟨g2, g | ⟨g3, g⟩⟩⟩
  all_goals
    go_wp2_with (first | (go_at_call 13; refine (refCell_any k _ _ h1 h2 (by assumption)).mono ?_; rintro e w' ⟨rfl, rfl⟩))
    go_ret
    exact ⟨rfl, Kp.end6 K3⟩

set_option maxHeartbeats 1000000 in
set_option maxRecDepth 100000 in
theorem cells_may_in (k : Nat) (x y c r : Int) (w : World) (h1 : 24 ≤ k) (h2 : k ≤ 31) (hm : mayB x y = true) (hc : belB c (sideI k) = true) (hr : belB r (sideI k) = true) :
    Calls Try.prog 3 #[.int .i64 k, .agg #[.int .i64 x, .int .i64 y], .int .i64 c, .int .i64 r] w fun e w' => e = .returned (.bool true) ∧ Below w.heap.size w w' := by
  have L := Lib.hid (Kp.add0 ⟨Nat.le_refl _, Below.refl w.heap.size w⟩ w.heap.size rfl (.int .i64 x) (.int .i64 y) 23)
  have q1 := eql_arg
  have q2 := neq_arg
  have q3 := neq_range
  have q4 := neq_nil_nil
  have q5 := eql_nil_nil
  have h := shB_of h1 h2
  have Cs := side_any k
  have Cr := fun W => refSide_any k W h1 h2
  rw [sdI_yes h1 h2] at Cs
  have Cc := fun W => cell_yes k x y W h1 h2 hm
  have Cb := fun W => box_yes k c r W h1 h2 hc hr
  obtain ⟨r1, r2⟩ := mayB_bd hm
  have Cx := Lib.hid (fun W => refBox_any k c r W h1 h2 hc hr)
  obtain ⟨c1, c2⟩ := belB_iff.1 hc
  obtain ⟨d1, d2⟩ := belB_iff.1 hr
  have c3 : ¬ c < 0 := by omega
  have d3 : ¬ r < 0 := by omega
  obtain ⟨sd, hsd⟩ : ∃ sd, sd = sideI k := ⟨_, rfl⟩
  rw [← hsd] at Cs Cr c2 d2
  clear hsd hc hr
  go_enter Try.func3, Try.ntmps3
  go_wp2_with (first | (go_at_call 6; refine (up_any _).mono ?_; rintro e w' ⟨rfl, rfl⟩) | (go_at_call 7; refine (refShift_any _ _).mono ?_; rintro e w' ⟨rfl, rfl⟩))
  refine (Cc _).mono ?_
  rintro e w1 ⟨rfl, hb1⟩
  have K1 := Kp.keep2 hb1 L.out
  clear hb1 L
  go_wp2_with fail
  refine (Cb _).mono ?_
  rintro e w2 ⟨rfl, hb2⟩
  have K2 := Kp.adq2 (Kp.keep2 hb2 K1) w2.heap.size rfl (.int .i64 (firI k c)) (.int .i64 (firI k r)) (.int .i64 (lasI k c)) (.int .i64 (lasI k r)) 31
  clear hb2 K1
  go_wp2_with (first | (go_at_call 10; refine (Cs _).mono ?_; rintro e w' ⟨rfl, rfl⟩) | (go_at_call 11; refine (Cr _).mono ?_; rintro e w' ⟨rfl, rfl⟩))
  refine (Pt.refMay_any _ _ _).mono ?_
  rintro e w3 ⟨rfl, hb3⟩
  have K3 := Kp.keep6 hb3 K2
  clear hb3 K2
  go_wp2_with (first | (go_at_call 13; refine (refCell_any k _ _ h1 h2 (by assumption)).mono ?_; rintro e w' ⟨rfl, rfl⟩))
  go_region_held3 (fun W => W.cell? ⟨w.heap.size, 0, none⟩ = some (.int .i64 x) ∧ W.cell? ⟨w.heap.size, 1, none⟩ = some (.int .i64 y) ∧ W.cell? ⟨w2.heap.size, 0, none⟩ = some (.int .i64 (firI k c)) ∧ W.cell? ⟨w2.heap.size, 1, none⟩ = some (.int .i64 (firI k r)) ∧ W.cell? ⟨w2.heap.size, 2, none⟩ = some (.int .i64 (lasI k c)) ∧ W.cell? ⟨w2.heap.size, 3, none⟩ = some (.int .i64 (lasI k r)) ∧ w.heap.size ≤ W.heap.size ∧ Below w.heap.size w W)
    (first | exact Kp.drew6 (by assumption) | exact Kp.keep6 (by assumption) (by assumption))
    (first | (go_at_call 14; refine (Cx.out _).mono ?_; rintro e w4 ⟨rfl, hb4⟩))
  go_wp2_with fail
  go_ret
  exact ⟨rfl, Kp.end6 (by assumption)⟩

set_option maxHeartbeats 1000000 in
set_option maxRecDepth 100000 in
theorem cells_law (s : Int) (x y c r : Int) (w : World) :
    Calls Try.prog 3 #[.int .i64 s, .agg #[.int .i64 x, .int .i64 y], .int .i64 c, .int .i64 r] w fun e w' => e = .returned (.bool true) ∧ Below w.heap.size w w' := by
  cases h : shB s
  · exact cells_arg s x y c r w h
  obtain ⟨k, rfl, h1, h2⟩ := shB_nat h
  cases hb : (belB c (sideI k) && belB r (sideI k))
  · cases hm : mayB x y
    · exact cells_far_out k x y c r w h1 h2 hm hb
    · exact cells_may_out k x y c r w h1 h2 hm hb
  · rw [Bool.and_eq_true] at hb
    cases hm : mayB x y
    · exact cells_far_in k x y c r w h1 h2 hm hb.1 hb.2
    · exact cells_may_in k x y c r w h1 h2 hm hb.1 hb.2
end Go.Proofs.Yteldmacgbdlmiaa.Mo
