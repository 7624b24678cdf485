/-
  The walk of the statement PointAdds: whatever two points it is given, it returns true, and memory that was there is left as it was.
-/
import Derived.Test.YtjdeoneefgoaaaaPtUp
import Derived.Test.YtjdeoneefgoaaaaKeep
namespace Go.Proofs.Ytjdeoneefgoaaaa.Pt
open Go.RowKit

set_option maxHeartbeats 1000000 in
theorem adds_no1 (px py dx dy : Int) (w : World) (h1 : mayB px py = false) :
    Calls Try.prog 4 #[.agg #[.int .i64 px, .int .i64 py], .agg #[.int .i64 dx, .int .i64 dy]] w fun e w' => e = .returned (.bool true) ∧ Below w.heap.size w w' := by
  have L := Kp.add2 (Kp.add0 ⟨Nat.le_refl _, Below.refl w.heap.size w⟩ w.heap.size rfl (.int .i64 px) (.int .i64 py) 23) (w.heap.size + 1) (by simp) (.int .i64 dx) (.int .i64 dy) 23
  have hq := eql_range
  have hq1 := eql_nil_nil
  go_enter Try.func4, Try.ntmps4
  go_wp2_with fail
  refine (up_any _).mono ?_
  rintro e w1 ⟨rfl, hb1⟩
  have K1 := Kp.keep4 hb1 L; clear hb1 L
  go_wp2_with fail
  refine (add_no1 _ _ _ _ _ h1).mono ?_
  rintro e w2 ⟨rfl, hb2⟩
  have K2 := Kp.keep4 hb2 K1; clear hb2 K1
  have K3 := Kp.add4 K2 w2.heap.size rfl (.int .i64 0) (.int .i64 0) 23
  go_wp2_with fail
  refine (refMay_any _ _ _).mono ?_
  rintro e w3 ⟨rfl, hb3⟩
  have K4 := Kp.keep6 hb3 K3; clear hb3 K3 K2
  go_wp2_with fail
  refine (refMay_any _ _ _).mono ?_
  rintro e w4 ⟨rfl, hb4⟩
  have K5 := Kp.keep6 hb4 K4; clear hb4 K4
  go_wp2_with fail
  refine (refMay_any _ _ _).mono ?_
  rintro e w5 ⟨rfl, hb5⟩
  have K6 := Kp.keep6 hb5 (Kp.keep6 (Kp.behind _ _) K5)
  clear hb5
  go_wp2_with fail
  go_ret
  exact ⟨rfl, Kp.end6 K6⟩

set_option maxHeartbeats 1000000 in
theorem adds_no2 (px py dx dy : Int) (w : World) (h1 : mayB px py = true) (h2 : mayB dx dy = false) :
    Calls Try.prog 4 #[.agg #[.int .i64 px, .int .i64 py], .agg #[.int .i64 dx, .int .i64 dy]] w fun e w' => e = .returned (.bool true) ∧ Below w.heap.size w w' := by
  have L := Kp.add2 (Kp.add0 ⟨Nat.le_refl _, Below.refl w.heap.size w⟩ w.heap.size rfl (.int .i64 px) (.int .i64 py) 23) (w.heap.size + 1) (by simp) (.int .i64 dx) (.int .i64 dy) 23
  have hq := eql_range
  have hq1 := eql_nil_nil
  go_enter Try.func4, Try.ntmps4
  go_wp2_with fail
  refine (up_any _).mono ?_
  rintro e w1 ⟨rfl, hb1⟩
  have K1 := Kp.keep4 hb1 L; clear hb1 L
  go_wp2_with fail
  refine (add_no2 _ _ _ _ _ h1 h2).mono ?_
  rintro e w2 ⟨rfl, hb2⟩
  have K2 := Kp.keep4 hb2 K1; clear hb2 K1
  have K3 := Kp.add4 K2 w2.heap.size rfl (.int .i64 0) (.int .i64 0) 23
  go_wp2_with fail
  refine (refMay_any _ _ _).mono ?_
  rintro e w3 ⟨rfl, hb3⟩
  have K4 := Kp.keep6 hb3 K3; clear hb3 K3 K2
  go_wp2_with fail
  refine (refMay_any _ _ _).mono ?_
  rintro e w4 ⟨rfl, hb4⟩
  have K5 := Kp.keep6 hb4 K4; clear hb4 K4
  go_wp2_with fail
  refine (refMay_any _ _ _).mono ?_
  rintro e w5 ⟨rfl, hb5⟩
  have K6 := Kp.keep6 hb5 (Kp.keep6 (Kp.behind _ _) K5)
  clear hb5
  go_wp2_with fail
  go_ret
  exact ⟨rfl, Kp.end6 K6⟩

set_option maxHeartbeats 1000000 in
theorem adds_no3 (px py dx dy : Int) (w : World) (h1 : mayB px py = true) (h2 : mayB dx dy = true) (h3 : mayB (px + dx) (py + dy) = false) :
    Calls Try.prog 4 #[.agg #[.int .i64 px, .int .i64 py], .agg #[.int .i64 dx, .int .i64 dy]] w fun e w' => e = .returned (.bool true) ∧ Below w.heap.size w w' := by
  have L := Kp.add2 (Kp.add0 ⟨Nat.le_refl _, Below.refl w.heap.size w⟩ w.heap.size rfl (.int .i64 px) (.int .i64 py) 23) (w.heap.size + 1) (by simp) (.int .i64 dx) (.int .i64 dy) 23
  have hq := eql_range
  have hq1 := eql_nil_nil
  obtain ⟨a1, a2⟩ := mayB_bd h1; obtain ⟨b1, b2⟩ := mayB_bd h2
  rw [inR_iff] at a1 a2 b1 b2
  obtain ⟨_, _⟩ := a1; obtain ⟨_, _⟩ := a2; obtain ⟨_, _⟩ := b1; obtain ⟨_, _⟩ := b2
  go_enter Try.func4, Try.ntmps4
  go_wp2_with fail
  refine (up_any _).mono ?_
  rintro e w1 ⟨rfl, hb1⟩
  have K1 := Kp.keep4 hb1 L; clear hb1 L
  go_wp2_with fail
  refine (add_no3 _ _ _ _ _ h1 h2 h3).mono ?_
  rintro e w2 ⟨rfl, hb2⟩
  have K2 := Kp.keep4 hb2 K1; clear hb2 K1
  have K3 := Kp.add4 K2 w2.heap.size rfl (.int .i64 0) (.int .i64 0) 23
  go_wp2_with fail
  refine (refMay_any _ _ _).mono ?_
  rintro e w3 ⟨rfl, hb3⟩
  have K4 := Kp.keep6 hb3 K3; clear hb3 K3 K2
  go_wp2_with fail
  refine (refMay_any _ _ _).mono ?_
  rintro e w4 ⟨rfl, hb4⟩
  have K5 := Kp.keep6 hb4 K4; clear hb4 K4
  go_wp2_with fail
  refine (refMay_any _ _ _).mono ?_
  rintro e w5 ⟨rfl, hb5⟩
  have K6 := Kp.keep6 hb5 (Kp.keep6 (Kp.behind _ _) K5)
  clear hb5
  go_wp2_with fail
  go_ret
  exact ⟨rfl, Kp.end6 K6⟩

set_option maxHeartbeats 1000000 in
theorem adds_ok (px py dx dy : Int) (w : World) (h1 : mayB px py = true) (h2 : mayB dx dy = true) (h3 : mayB (px + dx) (py + dy) = true) :
    Calls Try.prog 4 #[.agg #[.int .i64 px, .int .i64 py], .agg #[.int .i64 dx, .int .i64 dy]] w fun e w' => e = .returned (.bool true) ∧ Below w.heap.size w w' := by
  have L := Kp.add2 (Kp.add0 ⟨Nat.le_refl _, Below.refl w.heap.size w⟩ w.heap.size rfl (.int .i64 px) (.int .i64 py) 23) (w.heap.size + 1) (by simp) (.int .i64 dx) (.int .i64 dy) 23
  have hq := eql_range
  have hq1 := eql_nil_nil
  obtain ⟨a1, a2⟩ := mayB_bd h1; obtain ⟨b1, b2⟩ := mayB_bd h2
  rw [inR_iff] at a1 a2 b1 b2
  obtain ⟨_, _⟩ := a1; obtain ⟨_, _⟩ := a2; obtain ⟨_, _⟩ := b1; obtain ⟨_, _⟩ := b2
  go_enter Try.func4, Try.ntmps4
  go_wp2_with fail
  refine (up_any _).mono ?_
  rintro e w1 ⟨rfl, hb1⟩
  have K1 := Kp.keep4 hb1 L; clear hb1 L
  go_wp2_with fail
  refine (add_ok _ _ _ _ _ h1 h2 h3).mono ?_
  rintro e w2 ⟨rfl, hb2⟩
  have K2 := Kp.keep4 hb2 K1; clear hb2 K1
  have K3 := Kp.add4 K2 w2.heap.size rfl (.int .i64 (px + dx)) (.int .i64 (py + dy)) 23
  go_wp2_with fail
  refine (refMay_any _ _ _).mono ?_
  rintro e w3 ⟨rfl, hb3⟩
  have K4 := Kp.keep6 hb3 K3; clear hb3 K3 K2
  go_wp2_with fail
  refine (refMay_any _ _ _).mono ?_
  rintro e w4 ⟨rfl, hb4⟩
  have K5 := Kp.keep6 hb4 K4; clear hb4 K4
  go_wp2_with fail
  refine (refMay_any _ _ _).mono ?_
  rintro e w5 ⟨rfl, hb5⟩
  have K6 := Kp.keep8 hb5 (Kp.add6 K5 w4.heap.size rfl (.int .i64 (px + dx)) (.int .i64 (py + dy)) 23)
  clear hb5
  go_wp2_with fail
  go_ret
  exact ⟨rfl, Kp.end8 K6⟩

theorem adds_any (px py dx dy : Int) (w : World) :
    Calls Try.prog 4 #[.agg #[.int .i64 px, .int .i64 py], .agg #[.int .i64 dx, .int .i64 dy]] w fun e w' => e = .returned (.bool true) ∧ Below w.heap.size w w' := by
  cases h1 : mayB px py
  · exact adds_no1 px py dx dy w h1
  cases h2 : mayB dx dy
  · exact adds_no2 px py dx dy w h1 h2
  cases h3 : mayB (px + dx) (py + dy)
  · exact adds_no3 px py dx dy w h1 h2 h3
  exact adds_ok px py dx dy w h1 h2 h3
end Go.Proofs.Ytjdeoneefgoaaaa.Pt
