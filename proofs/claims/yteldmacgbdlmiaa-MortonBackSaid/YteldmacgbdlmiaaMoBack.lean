/-
  The walk of the statement MortonBack: whatever shift, point, cells and bit it is given, it returns true, and memory that was there is left as it was.
-/
import Derived.Test.YteldmacgbdlmiaaMoUp
import Derived.Test.YteldmacgbdlmiaaMoCell
import Derived.Test.YteldmacgbdlmiaaMoBox
import Derived.Test.YteldmacgbdlmiaaMoIn
import Derived.BigQuiet
import Derived.WalkSmall
namespace Go.Proofs.Yteldmacgbdlmiaa.Mo
open Go.RowKit Go.Proofs.Yteldmacgbdlmiaa.Pt Go.Proofs.Yteldmacgbdlmiaa.Rc

set_option maxHeartbeats 2000000 in
set_option maxRecDepth 100000 in
theorem back_no1 (s x y : Int) (a b c d t n : Int) (v : Value) (w : World)
    (C1 : (∀ W, Calls Try.prog 15 #[.int .i64 a, .int .i64 b] W fun e w' => e = .returned (.tuple #[.int .u64 0, .iface 35 (.int .i64 1)]) ∧ W = w')) (C2 : (∀ W, Calls Try.prog 15 #[.int .i64 c, .int .i64 d] W fun e w' => e = .returned (.tuple #[.int .u64 n, v]) ∧ W = w')) :
    Calls Try.prog 5 #[.int .i64 s, .agg #[.int .i64 x, .int .i64 y], .int .i64 a, .int .i64 b, .int .i64 c, .int .i64 d, .int .i64 t] w fun e w' => e = .returned (.bool true) ∧ Below w.heap.size w w' := by
  have L := Lib.hid (Kp.add0 ⟨Nat.le_refl _, Below.refl w.heap.size w⟩ w.heap.size rfl (.int .i64 x) (.int .i64 y) 23)
  have q1 := neq_arg_nil
  have q2 := neq_range_nil
  have q4 := neq_nil_nil
  have q5 := eql_nil_nil
  go_enter Try.func5, Try.ntmps5
  go_wp2_with (first | (go_at_call 6; refine (up_any _).mono ?_; rintro e w' ⟨rfl, rfl⟩))
  refine (C1 _).mono ?_
  rintro e w1 ⟨rfl, rfl⟩
  go_wp2_with fail
  refine (C2 _).mono ?_
  rintro e w1 ⟨rfl, rfl⟩
  go_wp2_with fail
  go_ret
  exact ⟨rfl, Kp.end2 L.out⟩

set_option maxHeartbeats 2000000 in
set_option maxRecDepth 100000 in
theorem back_no2 (s x y : Int) (a b c d t m : Int) (w : World)
    (C1 : (∀ W, Calls Try.prog 15 #[.int .i64 a, .int .i64 b] W fun e w' => e = .returned (.tuple #[.int .u64 m, .nilIface]) ∧ W = w')) (C2 : (∀ W, Calls Try.prog 15 #[.int .i64 c, .int .i64 d] W fun e w' => e = .returned (.tuple #[.int .u64 0, .iface 35 (.int .i64 1)]) ∧ W = w')) :
    Calls Try.prog 5 #[.int .i64 s, .agg #[.int .i64 x, .int .i64 y], .int .i64 a, .int .i64 b, .int .i64 c, .int .i64 d, .int .i64 t] w fun e w' => e = .returned (.bool true) ∧ Below w.heap.size w w' := by
  have L := Lib.hid (Kp.add0 ⟨Nat.le_refl _, Below.refl w.heap.size w⟩ w.heap.size rfl (.int .i64 x) (.int .i64 y) 23)
  have q1 := neq_arg_nil
  have q2 := neq_range_nil
  have q4 := neq_nil_nil
  have q5 := eql_nil_nil
  go_enter Try.func5, Try.ntmps5
  go_wp2_with (first | (go_at_call 6; refine (up_any _).mono ?_; rintro e w' ⟨rfl, rfl⟩))
  refine (C1 _).mono ?_
  rintro e w1 ⟨rfl, rfl⟩
  go_wp2_with fail
  refine (C2 _).mono ?_
  rintro e w1 ⟨rfl, rfl⟩
  go_wp2_with fail
  go_ret
  exact ⟨rfl, Kp.end2 L.out⟩

set_option maxHeartbeats 2000000 in
set_option maxRecDepth 100000 in
theorem back_bit (s x y : Int) (a b c d t m n : Int) (w : World) (ht : t < 0 ∨ (¬ t < 0 ∧ 30 < t))
    (C1 : (∀ W, Calls Try.prog 15 #[.int .i64 a, .int .i64 b] W fun e w' => e = .returned (.tuple #[.int .u64 m, .nilIface]) ∧ W = w')) (C2 : (∀ W, Calls Try.prog 15 #[.int .i64 c, .int .i64 d] W fun e w' => e = .returned (.tuple #[.int .u64 n, .nilIface]) ∧ W = w')) :
    Calls Try.prog 5 #[.int .i64 s, .agg #[.int .i64 x, .int .i64 y], .int .i64 a, .int .i64 b, .int .i64 c, .int .i64 d, .int .i64 t] w fun e w' => e = .returned (.bool true) ∧ Below w.heap.size w w' := by
  have L := Lib.hid (Kp.add0 ⟨Nat.le_refl _, Below.refl w.heap.size w⟩ w.heap.size rfl (.int .i64 x) (.int .i64 y) 23)
  have q1 := neq_arg_nil
  have q2 := neq_range_nil
  have q4 := neq_nil_nil
  have q5 := eql_nil_nil
  rcases ht with ht | ⟨ht1, ht⟩
  all_goals
    go_enter Try.func5, Try.ntmps5
    go_wp2_with (first | (go_at_call 6; refine (up_any _).mono ?_; rintro e w' ⟨rfl, rfl⟩))
    refine (C1 _).mono ?_
    rintro e w1 ⟨rfl, rfl⟩
    go_wp2_with fail
    refine (C2 _).mono ?_
    rintro e w1 ⟨rfl, rfl⟩
    go_wp2_with fail
    go_ret
    exact ⟨rfl, Kp.end2 L.out⟩

set_option maxHeartbeats 2000000 in
set_option maxRecDepth 100000 in
theorem back_ee (s x y : Int) (a b c d t m n : Nat) (w : World) (ht : t ≤ 30)
    (C1 : (∀ W, Calls Try.prog 15 #[.int .i64 a, .int .i64 b] W fun e w' => e = .returned (.tuple #[.int .u64 m, .nilIface]) ∧ W = w')) (C2 : (∀ W, Calls Try.prog 15 #[.int .i64 c, .int .i64 d] W fun e w' => e = .returned (.tuple #[.int .u64 n, .nilIface]) ∧ W = w'))
    (C3 : ∀ W, Calls Try.prog 16 #[.int .u64 m] W fun e w' => e = .returned (.tuple #[.int .i64 a, .int .i64 b]) ∧ W = w')
    (e1 : ((m : Int) == n) = true) (e2 : ((a : Int) == c) = true) (e3 : ((b : Int) == d) = true)
    (f1 : ((m : Int) / 2 ^ (2 * t) == (n : Int) / 2 ^ (2 * t)) = true) (f2 : ((a : Int) / 2 ^ t == (c : Int) / 2 ^ t) = true) (f3 : ((b : Int) / 2 ^ t == (d : Int) / 2 ^ t) = true) :
    Calls Try.prog 5 #[.int .i64 s, .agg #[.int .i64 x, .int .i64 y], .int .i64 a, .int .i64 b, .int .i64 c, .int .i64 d, .int .i64 t] w fun e w' => e = .returned (.bool true) ∧ Below w.heap.size w w' := by
  have L := Lib.hid (Kp.add0 ⟨Nat.le_refl _, Below.refl w.heap.size w⟩ w.heap.size rfl (.int .i64 x) (.int .i64 y) 23)
  have q1 := neq_arg_nil
  have q2 := neq_range_nil
  have q4 := neq_nil_nil
  have q5 := eql_nil_nil
  have C4 : (∀ W, Calls Try.prog 8 #[.int .i64 s, .agg #[.int .i64 x, .int .i64 y]] W fun e w' => e = .returned (.tuple #[.int .i64 0, .int .i64 0, .iface 35 (.int .i64 1)]) ∧ Below W.heap.size W w') ∨
      (∀ W, Calls Try.prog 8 #[.int .i64 s, .agg #[.int .i64 x, .int .i64 y]] W fun e w' => e = .returned (.tuple #[.int .i64 0, .int .i64 0, .iface 35 (.int .i64 11)]) ∧ Below W.heap.size W w') ∨
      ∃ (k : Nat), s = k ∧ 24 ≤ k ∧ k ≤ 31 ∧ mayB x y = true := by
    cases h : shB s
    · exact .inl fun W => cell_arg s x y W h
    cases hm : mayB x y
    · exact .inr (.inl fun W => cell_far s x y W h hm)
    obtain ⟨k, rfl, h1, h2⟩ := shB_nat h
    exact .inr (.inr ⟨k, rfl, h1, h2, rfl⟩)
  have D4 := Lib.hid C4
  clear C4
  go_enter Try.func5, Try.ntmps5
  go_wp2_with (first | (go_at_call 6; refine (up_any _).mono ?_; rintro e w' ⟨rfl, rfl⟩))
  refine (C1 _).mono ?_
  rintro e w1 ⟨rfl, rfl⟩
  go_wp2_with fail
  refine (C2 _).mono ?_
  rintro e w1 ⟨rfl, rfl⟩
  go_wp2_with fail
  refine (C3 _).mono ?_
  rintro e w1 ⟨rfl, rfl⟩
  go_wp2_with fail
  have LN := fun n => Lib.hid (Kp.keep2 (below_drewN (Below.refl _ _) n) L.out)
  go_quiet (fail)
  go_wp2_with fail
  rcases D4.out with C4 | C4 | ⟨k, rfl, h1, h2, hm⟩
  · refine (C4 _).mono ?_
    rintro e w1 ⟨rfl, hb1⟩
    have K1 := Kp.keep2 hb1 (LN _).out
    clear hb1
    go_wp2_with fail
    go_ret
    exact ⟨rfl, Kp.end2 K1⟩
  · refine (C4 _).mono ?_
    rintro e w1 ⟨rfl, hb1⟩
    have K1 := Kp.keep2 hb1 (LN _).out
    clear hb1
    go_wp2_with fail
    go_ret
    exact ⟨rfl, Kp.end2 K1⟩
  · refine (cell_yes k x y _ h1 h2 hm).mono ?_
    rintro e w1 ⟨rfl, hb1⟩
    have K1 := Kp.keep2 hb1 (LN _).out
    clear hb1
    go_wp2_with fail
    refine (box_yes k _ _ _ h1 h2 (col_bel h2 hm).1 (col_bel h2 hm).2).mono ?_
    rintro e w2 ⟨rfl, hb2⟩
    have K2 := Kp.adq2 (Kp.keep2 hb2 K1) w2.heap.size rfl (.int .i64 (firI k (colI k x))) (.int .i64 (firI k (colI k y))) (.int .i64 (lasI k (colI k x))) (.int .i64 (lasI k (colI k y))) 31
    clear hb2
    go_wp2_with fail
    have hi := in_box (k := k) hm
    refine (refIn_any _ _ _ _ _ _ _).mono ?_
    rintro e w3 ⟨rfl, hb3⟩
    have K3 := Kp.keep6 hb3 K2
    clear hb3
    go_wp2_with fail
    go_ret
    exact ⟨rfl, Kp.end6 K3⟩

set_option maxHeartbeats 2000000 in
set_option maxRecDepth 100000 in
theorem back_te (s x y : Int) (a b c d t m n : Nat) (w : World) (ht : t ≤ 30)
    (C1 : (∀ W, Calls Try.prog 15 #[.int .i64 a, .int .i64 b] W fun e w' => e = .returned (.tuple #[.int .u64 m, .nilIface]) ∧ W = w')) (C2 : (∀ W, Calls Try.prog 15 #[.int .i64 c, .int .i64 d] W fun e w' => e = .returned (.tuple #[.int .u64 n, .nilIface]) ∧ W = w'))
    (C3 : ∀ W, Calls Try.prog 16 #[.int .u64 m] W fun e w' => e = .returned (.tuple #[.int .i64 a, .int .i64 b]) ∧ W = w')
    (e1 : ((m : Int) == n) = false) (e2 : ((a : Int) == c) = true) (e3 : ((b : Int) == d) = false)
    (f1 : ((m : Int) / 2 ^ (2 * t) == (n : Int) / 2 ^ (2 * t)) = true) (f2 : ((a : Int) / 2 ^ t == (c : Int) / 2 ^ t) = true) (f3 : ((b : Int) / 2 ^ t == (d : Int) / 2 ^ t) = true) :
    Calls Try.prog 5 #[.int .i64 s, .agg #[.int .i64 x, .int .i64 y], .int .i64 a, .int .i64 b, .int .i64 c, .int .i64 d, .int .i64 t] w fun e w' => e = .returned (.bool true) ∧ Below w.heap.size w w' := by
  have L := Lib.hid (Kp.add0 ⟨Nat.le_refl _, Below.refl w.heap.size w⟩ w.heap.size rfl (.int .i64 x) (.int .i64 y) 23)
  have q1 := neq_arg_nil
  have q2 := neq_range_nil
  have q4 := neq_nil_nil
  have q5 := eql_nil_nil
  have C4 : (∀ W, Calls Try.prog 8 #[.int .i64 s, .agg #[.int .i64 x, .int .i64 y]] W fun e w' => e = .returned (.tuple #[.int .i64 0, .int .i64 0, .iface 35 (.int .i64 1)]) ∧ Below W.heap.size W w') ∨
      (∀ W, Calls Try.prog 8 #[.int .i64 s, .agg #[.int .i64 x, .int .i64 y]] W fun e w' => e = .returned (.tuple #[.int .i64 0, .int .i64 0, .iface 35 (.int .i64 11)]) ∧ Below W.heap.size W w') ∨
      ∃ (k : Nat), s = k ∧ 24 ≤ k ∧ k ≤ 31 ∧ mayB x y = true := by
    cases h : shB s
    · exact .inl fun W => cell_arg s x y W h
    cases hm : mayB x y
    · exact .inr (.inl fun W => cell_far s x y W h hm)
    obtain ⟨k, rfl, h1, h2⟩ := shB_nat h
    exact .inr (.inr ⟨k, rfl, h1, h2, rfl⟩)
  have D4 := Lib.hid C4
  clear C4
  go_enter Try.func5, Try.ntmps5
  go_wp2_with (first | (go_at_call 6; refine (up_any _).mono ?_; rintro e w' ⟨rfl, rfl⟩))
  refine (C1 _).mono ?_
  rintro e w1 ⟨rfl, rfl⟩
  go_wp2_with fail
  refine (C2 _).mono ?_
  rintro e w1 ⟨rfl, rfl⟩
  go_wp2_with fail
  refine (C3 _).mono ?_
  rintro e w1 ⟨rfl, rfl⟩
  go_wp2_with fail
  have LN := fun n => Lib.hid (Kp.keep2 (below_drewN (Below.refl _ _) n) L.out)
  go_quiet (fail)
  go_wp2_with fail
  rcases D4.out with C4 | C4 | ⟨k, rfl, h1, h2, hm⟩
  · refine (C4 _).mono ?_
    rintro e w1 ⟨rfl, hb1⟩
    have K1 := Kp.keep2 hb1 (LN _).out
    clear hb1
    go_wp2_with fail
    go_ret
    exact ⟨rfl, Kp.end2 K1⟩
  · refine (C4 _).mono ?_
    rintro e w1 ⟨rfl, hb1⟩
    have K1 := Kp.keep2 hb1 (LN _).out
    clear hb1
    go_wp2_with fail
    go_ret
    exact ⟨rfl, Kp.end2 K1⟩
  · refine (cell_yes k x y _ h1 h2 hm).mono ?_
    rintro e w1 ⟨rfl, hb1⟩
    have K1 := Kp.keep2 hb1 (LN _).out
    clear hb1
    go_wp2_with fail
    refine (box_yes k _ _ _ h1 h2 (col_bel h2 hm).1 (col_bel h2 hm).2).mono ?_
    rintro e w2 ⟨rfl, hb2⟩
    have K2 := Kp.adq2 (Kp.keep2 hb2 K1) w2.heap.size rfl (.int .i64 (firI k (colI k x))) (.int .i64 (firI k (colI k y))) (.int .i64 (lasI k (colI k x))) (.int .i64 (lasI k (colI k y))) 31
    clear hb2
    go_wp2_with fail
    have hi := in_box (k := k) hm
    refine (refIn_any _ _ _ _ _ _ _).mono ?_
    rintro e w3 ⟨rfl, hb3⟩
    have K3 := Kp.keep6 hb3 K2
    clear hb3
    go_wp2_with fail
    go_ret
    exact ⟨rfl, Kp.end6 K3⟩

set_option maxHeartbeats 2000000 in
set_option maxRecDepth 100000 in
theorem back_tt (s x y : Int) (a b c d t m n : Nat) (w : World) (ht : t ≤ 30)
    (C1 : (∀ W, Calls Try.prog 15 #[.int .i64 a, .int .i64 b] W fun e w' => e = .returned (.tuple #[.int .u64 m, .nilIface]) ∧ W = w')) (C2 : (∀ W, Calls Try.prog 15 #[.int .i64 c, .int .i64 d] W fun e w' => e = .returned (.tuple #[.int .u64 n, .nilIface]) ∧ W = w'))
    (C3 : ∀ W, Calls Try.prog 16 #[.int .u64 m] W fun e w' => e = .returned (.tuple #[.int .i64 a, .int .i64 b]) ∧ W = w')
    (e1 : ((m : Int) == n) = false) (e2 : ((a : Int) == c) = true) (e3 : ((b : Int) == d) = false)
    (f1 : ((m : Int) / 2 ^ (2 * t) == (n : Int) / 2 ^ (2 * t)) = false) (f2 : ((a : Int) / 2 ^ t == (c : Int) / 2 ^ t) = true) (f3 : ((b : Int) / 2 ^ t == (d : Int) / 2 ^ t) = false) :
    Calls Try.prog 5 #[.int .i64 s, .agg #[.int .i64 x, .int .i64 y], .int .i64 a, .int .i64 b, .int .i64 c, .int .i64 d, .int .i64 t] w fun e w' => e = .returned (.bool true) ∧ Below w.heap.size w w' := by
  have L := Lib.hid (Kp.add0 ⟨Nat.le_refl _, Below.refl w.heap.size w⟩ w.heap.size rfl (.int .i64 x) (.int .i64 y) 23)
  have q1 := neq_arg_nil
  have q2 := neq_range_nil
  have q4 := neq_nil_nil
  have q5 := eql_nil_nil
  have C4 : (∀ W, Calls Try.prog 8 #[.int .i64 s, .agg #[.int .i64 x, .int .i64 y]] W fun e w' => e = .returned (.tuple #[.int .i64 0, .int .i64 0, .iface 35 (.int .i64 1)]) ∧ Below W.heap.size W w') ∨
      (∀ W, Calls Try.prog 8 #[.int .i64 s, .agg #[.int .i64 x, .int .i64 y]] W fun e w' => e = .returned (.tuple #[.int .i64 0, .int .i64 0, .iface 35 (.int .i64 11)]) ∧ Below W.heap.size W w') ∨
      ∃ (k : Nat), s = k ∧ 24 ≤ k ∧ k ≤ 31 ∧ mayB x y = true := by
    cases h : shB s
    · exact .inl fun W => cell_arg s x y W h
    cases hm : mayB x y
    · exact .inr (.inl fun W => cell_far s x y W h hm)
    obtain ⟨k, rfl, h1, h2⟩ := shB_nat h
    exact .inr (.inr ⟨k, rfl, h1, h2, rfl⟩)
  have D4 := Lib.hid C4
  clear C4
  go_enter Try.func5, Try.ntmps5
  go_wp2_with (first | (go_at_call 6; refine (up_any _).mono ?_; rintro e w' ⟨rfl, rfl⟩))
  refine (C1 _).mono ?_
  rintro e w1 ⟨rfl, rfl⟩
  go_wp2_with fail
  refine (C2 _).mono ?_
  rintro e w1 ⟨rfl, rfl⟩
  go_wp2_with fail
  refine (C3 _).mono ?_
  rintro e w1 ⟨rfl, rfl⟩
  go_wp2_with fail
  have LN := fun n => Lib.hid (Kp.keep2 (below_drewN (Below.refl _ _) n) L.out)
  go_quiet (fail)
  go_wp2_with fail
  rcases D4.out with C4 | C4 | ⟨k, rfl, h1, h2, hm⟩
  · refine (C4 _).mono ?_
    rintro e w1 ⟨rfl, hb1⟩
    have K1 := Kp.keep2 hb1 (LN _).out
    clear hb1
    go_wp2_with fail
    go_ret
    exact ⟨rfl, Kp.end2 K1⟩
  · refine (C4 _).mono ?_
    rintro e w1 ⟨rfl, hb1⟩
    have K1 := Kp.keep2 hb1 (LN _).out
    clear hb1
    go_wp2_with fail
    go_ret
    exact ⟨rfl, Kp.end2 K1⟩
  · refine (cell_yes k x y _ h1 h2 hm).mono ?_
    rintro e w1 ⟨rfl, hb1⟩
    have K1 := Kp.keep2 hb1 (LN _).out
    clear hb1
    go_wp2_with fail
    refine (box_yes k _ _ _ h1 h2 (col_bel h2 hm).1 (col_bel h2 hm).2).mono ?_
    rintro e w2 ⟨rfl, hb2⟩
    have K2 := Kp.adq2 (Kp.keep2 hb2 K1) w2.heap.size rfl (.int .i64 (firI k (colI k x))) (.int .i64 (firI k (colI k y))) (.int .i64 (lasI k (colI k x))) (.int .i64 (lasI k (colI k y))) 31
    clear hb2
    go_wp2_with fail
    have hi := in_box (k := k) hm
    refine (refIn_any _ _ _ _ _ _ _).mono ?_
    rintro e w3 ⟨rfl, hb3⟩
    have K3 := Kp.keep6 hb3 K2
    clear hb3
    go_wp2_with fail
    go_ret
    exact ⟨rfl, Kp.end6 K3⟩

set_option maxHeartbeats 2000000 in
set_option maxRecDepth 100000 in
theorem back_fe (s x y : Int) (a b c d t m n : Nat) (w : World) (ht : t ≤ 30)
    (C1 : (∀ W, Calls Try.prog 15 #[.int .i64 a, .int .i64 b] W fun e w' => e = .returned (.tuple #[.int .u64 m, .nilIface]) ∧ W = w')) (C2 : (∀ W, Calls Try.prog 15 #[.int .i64 c, .int .i64 d] W fun e w' => e = .returned (.tuple #[.int .u64 n, .nilIface]) ∧ W = w'))
    (C3 : ∀ W, Calls Try.prog 16 #[.int .u64 m] W fun e w' => e = .returned (.tuple #[.int .i64 a, .int .i64 b]) ∧ W = w')
    (e1 : ((m : Int) == n) = false) (e2 : ((a : Int) == c) = false)
    (f1 : ((m : Int) / 2 ^ (2 * t) == (n : Int) / 2 ^ (2 * t)) = true) (f2 : ((a : Int) / 2 ^ t == (c : Int) / 2 ^ t) = true) (f3 : ((b : Int) / 2 ^ t == (d : Int) / 2 ^ t) = true) :
    Calls Try.prog 5 #[.int .i64 s, .agg #[.int .i64 x, .int .i64 y], .int .i64 a, .int .i64 b, .int .i64 c, .int .i64 d, .int .i64 t] w fun e w' => e = .returned (.bool true) ∧ Below w.heap.size w w' := by
  have L := Lib.hid (Kp.add0 ⟨Nat.le_refl _, Below.refl w.heap.size w⟩ w.heap.size rfl (.int .i64 x) (.int .i64 y) 23)
  have q1 := neq_arg_nil
  have q2 := neq_range_nil
  have q4 := neq_nil_nil
  have q5 := eql_nil_nil
  have C4 : (∀ W, Calls Try.prog 8 #[.int .i64 s, .agg #[.int .i64 x, .int .i64 y]] W fun e w' => e = .returned (.tuple #[.int .i64 0, .int .i64 0, .iface 35 (.int .i64 1)]) ∧ Below W.heap.size W w') ∨
      (∀ W, Calls Try.prog 8 #[.int .i64 s, .agg #[.int .i64 x, .int .i64 y]] W fun e w' => e = .returned (.tuple #[.int .i64 0, .int .i64 0, .iface 35 (.int .i64 11)]) ∧ Below W.heap.size W w') ∨
      ∃ (k : Nat), s = k ∧ 24 ≤ k ∧ k ≤ 31 ∧ mayB x y = true := by
    cases h : shB s
    · exact .inl fun W => cell_arg s x y W h
    cases hm : mayB x y
    · exact .inr (.inl fun W => cell_far s x y W h hm)
    obtain ⟨k, rfl, h1, h2⟩ := shB_nat h
    exact .inr (.inr ⟨k, rfl, h1, h2, rfl⟩)
  have D4 := Lib.hid C4
  clear C4
  go_enter Try.func5, Try.ntmps5
  go_wp2_with (first | (go_at_call 6; refine (up_any _).mono ?_; rintro e w' ⟨rfl, rfl⟩))
  refine (C1 _).mono ?_
  rintro e w1 ⟨rfl, rfl⟩
  go_wp2_with fail
  refine (C2 _).mono ?_
  rintro e w1 ⟨rfl, rfl⟩
  go_wp2_with fail
  refine (C3 _).mono ?_
  rintro e w1 ⟨rfl, rfl⟩
  go_wp2_with fail
  have LN := fun n => Lib.hid (Kp.keep2 (below_drewN (Below.refl _ _) n) L.out)
  go_quiet (fail)
  go_wp2_with fail
  rcases D4.out with C4 | C4 | ⟨k, rfl, h1, h2, hm⟩
  · refine (C4 _).mono ?_
    rintro e w1 ⟨rfl, hb1⟩
    have K1 := Kp.keep2 hb1 (LN _).out
    clear hb1
    go_wp2_with fail
    go_ret
    exact ⟨rfl, Kp.end2 K1⟩
  · refine (C4 _).mono ?_
    rintro e w1 ⟨rfl, hb1⟩
    have K1 := Kp.keep2 hb1 (LN _).out
    clear hb1
    go_wp2_with fail
    go_ret
    exact ⟨rfl, Kp.end2 K1⟩
  · refine (cell_yes k x y _ h1 h2 hm).mono ?_
    rintro e w1 ⟨rfl, hb1⟩
    have K1 := Kp.keep2 hb1 (LN _).out
    clear hb1
    go_wp2_with fail
    refine (box_yes k _ _ _ h1 h2 (col_bel h2 hm).1 (col_bel h2 hm).2).mono ?_
    rintro e w2 ⟨rfl, hb2⟩
    have K2 := Kp.adq2 (Kp.keep2 hb2 K1) w2.heap.size rfl (.int .i64 (firI k (colI k x))) (.int .i64 (firI k (colI k y))) (.int .i64 (lasI k (colI k x))) (.int .i64 (lasI k (colI k y))) 31
    clear hb2
    go_wp2_with fail
    have hi := in_box (k := k) hm
    refine (refIn_any _ _ _ _ _ _ _).mono ?_
    rintro e w3 ⟨rfl, hb3⟩
    have K3 := Kp.keep6 hb3 K2
    clear hb3
    go_wp2_with fail
    go_ret
    exact ⟨rfl, Kp.end6 K3⟩

set_option maxHeartbeats 2000000 in
set_option maxRecDepth 100000 in
theorem back_ft (s x y : Int) (a b c d t m n : Nat) (w : World) (ht : t ≤ 30)
    (C1 : (∀ W, Calls Try.prog 15 #[.int .i64 a, .int .i64 b] W fun e w' => e = .returned (.tuple #[.int .u64 m, .nilIface]) ∧ W = w')) (C2 : (∀ W, Calls Try.prog 15 #[.int .i64 c, .int .i64 d] W fun e w' => e = .returned (.tuple #[.int .u64 n, .nilIface]) ∧ W = w'))
    (C3 : ∀ W, Calls Try.prog 16 #[.int .u64 m] W fun e w' => e = .returned (.tuple #[.int .i64 a, .int .i64 b]) ∧ W = w')
    (e1 : ((m : Int) == n) = false) (e2 : ((a : Int) == c) = false)
    (f1 : ((m : Int) / 2 ^ (2 * t) == (n : Int) / 2 ^ (2 * t)) = false) (f2 : ((a : Int) / 2 ^ t == (c : Int) / 2 ^ t) = true) (f3 : ((b : Int) / 2 ^ t == (d : Int) / 2 ^ t) = false) :
    Calls Try.prog 5 #[.int .i64 s, .agg #[.int .i64 x, .int .i64 y], .int .i64 a, .int .i64 b, .int .i64 c, .int .i64 d, .int .i64 t] w fun e w' => e = .returned (.bool true) ∧ Below w.heap.size w w' := by
  have L := Lib.hid (Kp.add0 ⟨Nat.le_refl _, Below.refl w.heap.size w⟩ w.heap.size rfl (.int .i64 x) (.int .i64 y) 23)
  have q1 := neq_arg_nil
  have q2 := neq_range_nil
  have q4 := neq_nil_nil
  have q5 := eql_nil_nil
  have C4 : (∀ W, Calls Try.prog 8 #[.int .i64 s, .agg #[.int .i64 x, .int .i64 y]] W fun e w' => e = .returned (.tuple #[.int .i64 0, .int .i64 0, .iface 35 (.int .i64 1)]) ∧ Below W.heap.size W w') ∨
      (∀ W, Calls Try.prog 8 #[.int .i64 s, .agg #[.int .i64 x, .int .i64 y]] W fun e w' => e = .returned (.tuple #[.int .i64 0, .int .i64 0, .iface 35 (.int .i64 11)]) ∧ Below W.heap.size W w') ∨
      ∃ (k : Nat), s = k ∧ 24 ≤ k ∧ k ≤ 31 ∧ mayB x y = true := by
    cases h : shB s
    · exact .inl fun W => cell_arg s x y W h
    cases hm : mayB x y
    · exact .inr (.inl fun W => cell_far s x y W h hm)
    obtain ⟨k, rfl, h1, h2⟩ := shB_nat h
    exact .inr (.inr ⟨k, rfl, h1, h2, rfl⟩)
  have D4 := Lib.hid C4
  clear C4
  go_enter Try.func5, Try.ntmps5
  go_wp2_with (first | (go_at_call 6; refine (up_any _).mono ?_; rintro e w' ⟨rfl, rfl⟩))
  refine (C1 _).mono ?_
  rintro e w1 ⟨rfl, rfl⟩
  go_wp2_with fail
  refine (C2 _).mono ?_
  rintro e w1 ⟨rfl, rfl⟩
  go_wp2_with fail
  refine (C3 _).mono ?_
  rintro e w1 ⟨rfl, rfl⟩
  go_wp2_with fail
  have LN := fun n => Lib.hid (Kp.keep2 (below_drewN (Below.refl _ _) n) L.out)
  go_quiet (fail)
  go_wp2_with fail
  rcases D4.out with C4 | C4 | ⟨k, rfl, h1, h2, hm⟩
  · refine (C4 _).mono ?_
    rintro e w1 ⟨rfl, hb1⟩
    have K1 := Kp.keep2 hb1 (LN _).out
    clear hb1
    go_wp2_with fail
    go_ret
    exact ⟨rfl, Kp.end2 K1⟩
  · refine (C4 _).mono ?_
    rintro e w1 ⟨rfl, hb1⟩
    have K1 := Kp.keep2 hb1 (LN _).out
    clear hb1
    go_wp2_with fail
    go_ret
    exact ⟨rfl, Kp.end2 K1⟩
  · refine (cell_yes k x y _ h1 h2 hm).mono ?_
    rintro e w1 ⟨rfl, hb1⟩
    have K1 := Kp.keep2 hb1 (LN _).out
    clear hb1
    go_wp2_with fail
    refine (box_yes k _ _ _ h1 h2 (col_bel h2 hm).1 (col_bel h2 hm).2).mono ?_
    rintro e w2 ⟨rfl, hb2⟩
    have K2 := Kp.adq2 (Kp.keep2 hb2 K1) w2.heap.size rfl (.int .i64 (firI k (colI k x))) (.int .i64 (firI k (colI k y))) (.int .i64 (lasI k (colI k x))) (.int .i64 (lasI k (colI k y))) 31
    clear hb2
    go_wp2_with fail
    have hi := in_box (k := k) hm
    refine (refIn_any _ _ _ _ _ _ _).mono ?_
    rintro e w3 ⟨rfl, hb3⟩
    have K3 := Kp.keep6 hb3 K2
    clear hb3
    go_wp2_with fail
    go_ret
    exact ⟨rfl, Kp.end6 K3⟩

set_option maxHeartbeats 2000000 in
set_option maxRecDepth 100000 in
theorem back_ff (s x y : Int) (a b c d t m n : Nat) (w : World) (ht : t ≤ 30)
    (C1 : (∀ W, Calls Try.prog 15 #[.int .i64 a, .int .i64 b] W fun e w' => e = .returned (.tuple #[.int .u64 m, .nilIface]) ∧ W = w')) (C2 : (∀ W, Calls Try.prog 15 #[.int .i64 c, .int .i64 d] W fun e w' => e = .returned (.tuple #[.int .u64 n, .nilIface]) ∧ W = w'))
    (C3 : ∀ W, Calls Try.prog 16 #[.int .u64 m] W fun e w' => e = .returned (.tuple #[.int .i64 a, .int .i64 b]) ∧ W = w')
    (e1 : ((m : Int) == n) = false) (e2 : ((a : Int) == c) = false)
    (f1 : ((m : Int) / 2 ^ (2 * t) == (n : Int) / 2 ^ (2 * t)) = false) (f2 : ((a : Int) / 2 ^ t == (c : Int) / 2 ^ t) = false) :
    Calls Try.prog 5 #[.int .i64 s, .agg #[.int .i64 x, .int .i64 y], .int .i64 a, .int .i64 b, .int .i64 c, .int .i64 d, .int .i64 t] w fun e w' => e = .returned (.bool true) ∧ Below w.heap.size w w' := by
  have L := Lib.hid (Kp.add0 ⟨Nat.le_refl _, Below.refl w.heap.size w⟩ w.heap.size rfl (.int .i64 x) (.int .i64 y) 23)
  have q1 := neq_arg_nil
  have q2 := neq_range_nil
  have q4 := neq_nil_nil
  have q5 := eql_nil_nil
  have C4 : (∀ W, Calls Try.prog 8 #[.int .i64 s, .agg #[.int .i64 x, .int .i64 y]] W fun e w' => e = .returned (.tuple #[.int .i64 0, .int .i64 0, .iface 35 (.int .i64 1)]) ∧ Below W.heap.size W w') ∨
      (∀ W, Calls Try.prog 8 #[.int .i64 s, .agg #[.int .i64 x, .int .i64 y]] W fun e w' => e = .returned (.tuple #[.int .i64 0, .int .i64 0, .iface 35 (.int .i64 11)]) ∧ Below W.heap.size W w') ∨
      ∃ (k : Nat), s = k ∧ 24 ≤ k ∧ k ≤ 31 ∧ mayB x y = true := by
    cases h : shB s
    · exact .inl fun W => cell_arg s x y W h
    cases hm : mayB x y
    · exact .inr (.inl fun W => cell_far s x y W h hm)
    obtain ⟨k, rfl, h1, h2⟩ := shB_nat h
    exact .inr (.inr ⟨k, rfl, h1, h2, rfl⟩)
  have D4 := Lib.hid C4
  clear C4
  go_enter Try.func5, Try.ntmps5
  go_wp2_with (first | (go_at_call 6; refine (up_any _).mono ?_; rintro e w' ⟨rfl, rfl⟩))
  refine (C1 _).mono ?_
  rintro e w1 ⟨rfl, rfl⟩
  go_wp2_with fail
  refine (C2 _).mono ?_
  rintro e w1 ⟨rfl, rfl⟩
  go_wp2_with fail
  refine (C3 _).mono ?_
  rintro e w1 ⟨rfl, rfl⟩
  go_wp2_with fail
  have LN := fun n => Lib.hid (Kp.keep2 (below_drewN (Below.refl _ _) n) L.out)
  go_quiet (fail)
  go_wp2_with fail
  rcases D4.out with C4 | C4 | ⟨k, rfl, h1, h2, hm⟩
  · refine (C4 _).mono ?_
    rintro e w1 ⟨rfl, hb1⟩
    have K1 := Kp.keep2 hb1 (LN _).out
    clear hb1
    go_wp2_with fail
    go_ret
    exact ⟨rfl, Kp.end2 K1⟩
  · refine (C4 _).mono ?_
    rintro e w1 ⟨rfl, hb1⟩
    have K1 := Kp.keep2 hb1 (LN _).out
    clear hb1
    go_wp2_with fail
    go_ret
    exact ⟨rfl, Kp.end2 K1⟩
  · refine (cell_yes k x y _ h1 h2 hm).mono ?_
    rintro e w1 ⟨rfl, hb1⟩
    have K1 := Kp.keep2 hb1 (LN _).out
    clear hb1
    go_wp2_with fail
    refine (box_yes k _ _ _ h1 h2 (col_bel h2 hm).1 (col_bel h2 hm).2).mono ?_
    rintro e w2 ⟨rfl, hb2⟩
    have K2 := Kp.adq2 (Kp.keep2 hb2 K1) w2.heap.size rfl (.int .i64 (firI k (colI k x))) (.int .i64 (firI k (colI k y))) (.int .i64 (lasI k (colI k x))) (.int .i64 (lasI k (colI k y))) 31
    clear hb2
    go_wp2_with fail
    have hi := in_box (k := k) hm
    refine (refIn_any _ _ _ _ _ _ _).mono ?_
    rintro e w3 ⟨rfl, hb3⟩
    have K3 := Kp.keep6 hb3 K2
    clear hb3
    go_wp2_with fail
    go_ret
    exact ⟨rfl, Kp.end6 K3⟩

theorem beq_nat {i j : Nat} : ((i : Int) == (j : Int)) = decide (i = j) := by
  by_cases h : i = j
  · simp [h]
  · simp [h]; omega
theorem beq_div {i j p : Nat} : ((i : Int) / 2 ^ p == (j : Int) / 2 ^ p) = decide (i / 2 ^ p = j / 2 ^ p) := by
  rw [← beq_nat]
  simp
theorem two_four (t : Nat) : 2 ^ (2 * t) = 4 ^ t := by rw [Nat.pow_mul]
set_option maxHeartbeats 2000000 in
set_option maxRecDepth 100000 in
theorem back_law (s x y : Int) (a b c d t : Int) (w : World) :
    Calls Try.prog 5 #[.int .i64 s, .agg #[.int .i64 x, .int .i64 y], .int .i64 a, .int .i64 b, .int .i64 c, .int .i64 d, .int .i64 t] w fun e w' => e = .returned (.bool true) ∧ Below w.heap.size w w' := by
  cases g1 : (fitB a && fitB b)
  · cases g2 : (fitB c && fitB d)
    · exact back_no1 s x y a b c d t 0 (.iface 35 (.int .i64 1)) w (fun W => code_no a b W g1) (fun W => code_no c d W g2)
    · rw [Bool.and_eq_true] at g2
      obtain ⟨c, rfl, hc⟩ := fitB_nat g2.1
      obtain ⟨d, rfl, hd⟩ := fitB_nat g2.2
      exact back_no1 s x y a b c d t _ .nilIface w (fun W => code_no a b W g1) (fun W => code_yes c d W hc hd)
  rw [Bool.and_eq_true] at g1
  obtain ⟨a, rfl, ha⟩ := fitB_nat g1.1
  obtain ⟨b, rfl, hb⟩ := fitB_nat g1.2
  have C1 := fun W => code_yes a b W ha hb
  cases g2 : (fitB c && fitB d)
  · exact back_no2 s x y a b c d t _ w C1 (fun W => code_no c d W g2)
  rw [Bool.and_eq_true] at g2
  obtain ⟨c, rfl, hc⟩ := fitB_nat g2.1
  obtain ⟨d, rfl, hd⟩ := fitB_nat g2.2
  have C2 := fun W => code_yes c d W hc hd
  by_cases ht : 0 ≤ t ∧ t ≤ 30
  · obtain ⟨t, rfl⟩ : ∃ n : Nat, t = n := ⟨t.toNat, by omega⟩
    have ht' : t ≤ 30 := by omega
    have C3 := fun W => split_any (codeF 31 a b) (Nat.lt_trans (codeF_lt 31 a b) (by decide)) W
    rw [evenF_codeF 31 a b ha, oddF_codeF 31 a b hb] at C3
    have i1 := codeF_inj (k := 31) ha hb hc hd
    have i2 := codeF_quarter (b := t) (k := 31 - t) (a := a) (c := b) (e := c) (d := d) (by rw [show t + (31 - t) = 31 by omega]; exact ha) (by rw [show t + (31 - t) = 31 by omega]; exact hb) (by rw [show t + (31 - t) = 31 by omega]; exact hc) (by rw [show t + (31 - t) = 31 by omega]; exact hd)
    rw [show t + (31 - t) = 31 by omega, ← two_four] at i2
    have F1 := beq_div (i := codeF 31 a b) (j := codeF 31 c d) (p := 2 * t)
    have F2 := beq_div (i := a) (j := c) (p := t)
    have F3 := beq_div (i := b) (j := d) (p := t)
    have E1 := beq_nat (i := codeF 31 a b) (j := codeF 31 c d)
    have E2 := beq_nat (i := a) (j := c)
    have E3 := beq_nat (i := b) (j := d)
    by_cases k2 : a / 2 ^ t = c / 2 ^ t
    · rw [decide_eq_true k2] at F2
      by_cases k3 : b / 2 ^ t = d / 2 ^ t
      · rw [decide_eq_true k3] at F3
        rw [decide_eq_true (i2.2 ⟨k2, k3⟩)] at F1
        by_cases j2 : a = c
        · rw [decide_eq_true j2] at E2
          by_cases j3 : b = d
          · rw [decide_eq_true j3] at E3
            rw [decide_eq_true (i1.2 ⟨j2, j3⟩)] at E1
            exact back_ee s x y a b c d t _ _ w ht' C1 C2 C3 E1 E2 E3 F1 F2 F3
          · rw [decide_eq_false j3] at E3
            rw [decide_eq_false (fun h => j3 (i1.1 h).2)] at E1
            exact back_te s x y a b c d t _ _ w ht' C1 C2 C3 E1 E2 E3 F1 F2 F3
        · rw [decide_eq_false j2] at E2
          rw [decide_eq_false (fun h => j2 (i1.1 h).1)] at E1
          exact back_fe s x y a b c d t _ _ w ht' C1 C2 C3 E1 E2 F1 F2 F3
      · rw [decide_eq_false k3] at F3
        rw [decide_eq_false (fun h => k3 (i2.1 h).2)] at F1
        have j3 : ¬ b = d := fun h => k3 (by rw [h])
        by_cases j2 : a = c
        · rw [decide_eq_true j2] at E2
          rw [decide_eq_false j3] at E3
          rw [decide_eq_false (fun h => j3 (i1.1 h).2)] at E1
          exact back_tt s x y a b c d t _ _ w ht' C1 C2 C3 E1 E2 E3 F1 F2 F3
        · rw [decide_eq_false j2] at E2
          rw [decide_eq_false (fun h => j2 (i1.1 h).1)] at E1
          exact back_ft s x y a b c d t _ _ w ht' C1 C2 C3 E1 E2 F1 F2 F3
    · rw [decide_eq_false k2] at F2
      rw [decide_eq_false (fun h => k2 (i2.1 h).1)] at F1
      have j2 : ¬ a = c := fun h => k2 (by rw [h])
      rw [decide_eq_false j2] at E2
      rw [decide_eq_false (fun h => j2 (i1.1 h).1)] at E1
      exact back_ff s x y a b c d t _ _ w ht' C1 C2 C3 E1 E2 F1 F2
  · exact back_bit s x y a b c d t _ _ w (by omega) C1 C2
end Go.Proofs.Yteldmacgbdlmiaa.Mo
