/-
  Contract of cover.blockOf: the first and the last cell of a rectangle, or ErrArg. Memory that was there is left as it was.
-/
import Derived.Test.YtkkolodolmppnaaMoCell
import Derived.Test.YtkkolodolmppnaaRcMidA
import Derived.LaidEql
import Derived.KernelRfl
namespace Go.Proofs.Ytkkolodolmppnaa.Cv
open Go.RowKit Go.Proofs.Ytkkolodolmppnaa.Pt Go.Proofs.Ytkkolodolmppnaa.Rc Go.Proofs.Ytkkolodolmppnaa.Mo
set_option linter.unusedVariables false

theorem neq_arg_nil (w : World) : (binOp .neq 31 (.iface 37 (.int .i64 1)) .nilIface).run Try.prog w = .ok (.bool true) w := by kernel_rfl
theorem neq_nil_nil (w : World) : (binOp .neq 31 .nilIface .nilIface).run Try.prog w = .ok (.bool false) w := by kernel_rfl
theorem rmay_two {x1 y1 x2 y2 : Int} (h : rmayB x1 y1 x2 y2 = true) : mayB x1 y1 = true ∧ mayB x2 y2 = true := ⟨(rmayB_iff.1 h).1, (rmayB_iff.1 h).2.1⟩

theorem fz {W w1 : World} {b : Nat} (hb : Below W.heap.size W w1) (hlt : b < W.heap.size) (h : ∀ o, W.frozen? ⟨b, o, none⟩ = false) : ∀ o, w1.frozen? ⟨b, o, none⟩ = false :=
  fun o => (World.frozen?_of_block (w := W) (a := ⟨b, o, none⟩) (hb.block b hlt)).trans (h o)
set_option maxHeartbeats 1000000 in
theorem blk_bad (s x1 y1 x2 y2 : Int) (w : World) (h : rmayB x1 y1 x2 y2 = false) : Calls Try.prog 31 #[.int .i64 s, .agg #[.int .i64 x1, .int .i64 y1, .int .i64 x2, .int .i64 y2]] w fun e w' =>
    e = .returned (.tuple #[.agg #[.int .i64 0, .int .i64 0, .int .i64 0, .int .i64 0], .iface 37 (.int .i64 1)]) ∧ Below w.heap.size w w' := by
  have F0 : ∀ o, ((w.alloc (.cells #[.int .i64 x1, .int .i64 y1, .int .i64 x2, .int .i64 y2] 25)).alloc (.cells #[.int .i64 0, .int .i64 0, .int .i64 0, .int .i64 0] 66)).frozen? ⟨w.heap.size + 1, o, none⟩ = false := fun o => by simp
  have K0 := Lib.hid (Kp.adq4 (Kp.adq0 ⟨Nat.le_refl _, Below.refl w.heap.size w⟩ w.heap.size rfl (.int .i64 x1) (.int .i64 y1) (.int .i64 x2) (.int .i64 y2) 25) (w.heap.size + 1) (by simp) (.int .i64 0) (.int .i64 0) (.int .i64 0) (.int .i64 0) 66)
  go_enter Try.func31, Try.ntmps31
  go_wp2_with fail
  refine (rmay_any _ _ _ _ _).mono ?_
  rintro e w1 ⟨rfl, hb1⟩
  have K1 := Kp.keep8 hb1 K0.out
  have F1 := fz hb1 (by simp) F0
  have Z1 : w.heap.size + 1 < w1.heap.size := Nat.lt_of_lt_of_le (by simp) hb1.size
  clear K0 F0 hb1
  go_wp2_with fail
  refine bodyPost_ret (v := .tuple #[.agg #[.int .i64 0, .int .i64 0, .int .i64 0, .int .i64 0], .iface 37 (.int .i64 1)]) (by simp [results, Try.results31, go_sem, *]) rfl ⟨rfl, ?_⟩
  have B := Kp.end8 K1
  exact (((B.setCell (by simp) _).setCell (by simp) _).setCell (by simp) _).setCell (by simp) _

set_option maxHeartbeats 1000000 in
theorem blk_shift (s x1 y1 x2 y2 : Int) (w : World) (h : rmayB x1 y1 x2 y2 = true) (hs : shB s = false) : Calls Try.prog 31 #[.int .i64 s, .agg #[.int .i64 x1, .int .i64 y1, .int .i64 x2, .int .i64 y2]] w fun e w' =>
    e = .returned (.tuple #[.agg #[.int .i64 0, .int .i64 0, .int .i64 0, .int .i64 0], .iface 37 (.int .i64 1)]) ∧ Below w.heap.size w w' := by
  have q1 := neq_arg_nil
  have F0 : ∀ o, ((w.alloc (.cells #[.int .i64 x1, .int .i64 y1, .int .i64 x2, .int .i64 y2] 25)).alloc (.cells #[.int .i64 0, .int .i64 0, .int .i64 0, .int .i64 0] 66)).frozen? ⟨w.heap.size + 1, o, none⟩ = false := fun o => by simp
  have K0 := Lib.hid (Kp.adq4 (Kp.adq0 ⟨Nat.le_refl _, Below.refl w.heap.size w⟩ w.heap.size rfl (.int .i64 x1) (.int .i64 y1) (.int .i64 x2) (.int .i64 y2) 25) (w.heap.size + 1) (by simp) (.int .i64 0) (.int .i64 0) (.int .i64 0) (.int .i64 0) 66)
  go_enter Try.func31, Try.ntmps31
  go_wp2_with fail
  refine (rmay_any _ _ _ _ _).mono ?_
  rintro e w1 ⟨rfl, hb1⟩
  have K1 := Kp.keep8 hb1 K0.out
  have F1 := fz hb1 (by simp) F0
  have Z1 : w.heap.size + 1 < w1.heap.size := Nat.lt_of_lt_of_le (by simp) hb1.size
  clear K0 F0 hb1
  go_wp2_with fail
  refine (cell_arg _ _ _ _ hs).mono ?_
  rintro e w2 ⟨rfl, hb2⟩
  have K2 := Kp.keep8 hb2 K1
  have F2 := fz hb2 Z1 F1
  have Z2 := Nat.lt_of_lt_of_le Z1 hb2.size
  clear K1 F1 hb2 Z1
  go_wp2_with fail
  refine bodyPost_ret (v := .tuple #[.agg #[.int .i64 0, .int .i64 0, .int .i64 0, .int .i64 0], .iface 37 (.int .i64 1)]) (by simp [results, Try.results31, go_sem, *]) rfl ⟨rfl, ?_⟩
  have B := Kp.end8 K2
  exact (((B.setCell (by simp) _).setCell (by simp) _).setCell (by simp) _).setCell (by simp) _

set_option maxHeartbeats 1000000 in
theorem blk_yes (k : Nat) (x1 y1 x2 y2 : Int) (w : World) (h1 : 24 ≤ k) (h2 : k ≤ 31) (h : rmayB x1 y1 x2 y2 = true) : Calls Try.prog 31 #[.int .i64 k, .agg #[.int .i64 x1, .int .i64 y1, .int .i64 x2, .int .i64 y2]] w fun e w' =>
    e = .returned (.tuple #[.agg #[.int .i64 (colI k x1), .int .i64 (colI k y1), .int .i64 (colI k x2), .int .i64 (colI k y2)], .nilIface]) ∧ Below w.heap.size w w' := by
  have q4 := neq_nil_nil
  obtain ⟨m1, m2⟩ := rmay_two h
  have C1 := fun W => cell_yes k x1 y1 W h1 h2 m1
  have C2 := fun W => cell_yes k x2 y2 W h1 h2 m2
  obtain ⟨c1, e1⟩ : ∃ c, c = colI k x1 := ⟨_, rfl⟩
  obtain ⟨r1, e2⟩ : ∃ c, c = colI k y1 := ⟨_, rfl⟩
  obtain ⟨c2, e3⟩ : ∃ c, c = colI k x2 := ⟨_, rfl⟩
  obtain ⟨r2, e4⟩ : ∃ c, c = colI k y2 := ⟨_, rfl⟩
  simp only [← e1, ← e2] at C1
  simp only [← e3, ← e4] at C2
  rw [← e1, ← e2, ← e3, ← e4]
  clear e1 e2 e3 e4
  have F0 : ∀ o, ((w.alloc (.cells #[.int .i64 x1, .int .i64 y1, .int .i64 x2, .int .i64 y2] 25)).alloc (.cells #[.int .i64 0, .int .i64 0, .int .i64 0, .int .i64 0] 66)).frozen? ⟨w.heap.size + 1, o, none⟩ = false := fun o => by simp
  have K0 := Lib.hid (Kp.adq4 (Kp.adq0 ⟨Nat.le_refl _, Below.refl w.heap.size w⟩ w.heap.size rfl (.int .i64 x1) (.int .i64 y1) (.int .i64 x2) (.int .i64 y2) 25) (w.heap.size + 1) (by simp) (.int .i64 0) (.int .i64 0) (.int .i64 0) (.int .i64 0) 66)
  go_enter Try.func31, Try.ntmps31
  go_wp2_with fail
  refine (rmay_any _ _ _ _ _).mono ?_
  rintro e w1 ⟨rfl, hb1⟩
  have K1 := Kp.keep8 hb1 K0.out
  have F1 := fz hb1 (by simp) F0
  have Z1 : w.heap.size + 1 < w1.heap.size := Nat.lt_of_lt_of_le (by simp) hb1.size
  clear K0 F0 hb1
  go_wp2_with fail
  refine (C1 _).mono ?_
  rintro e w2 ⟨rfl, hb2⟩
  have K2 := Kp.keep8 hb2 K1
  have F2 := fz hb2 Z1 F1
  have Z2 := Nat.lt_of_lt_of_le Z1 hb2.size
  clear K1 F1 hb2 Z1
  go_wp2_with fail
  refine (C2 _).mono ?_
  rintro e w3 ⟨rfl, hb3⟩
  have K3 := Kp.keep8 hb3 K2
  have F3 := fz hb3 Z2 F2
  clear K2 F2 hb3 Z2
  go_wp2_with fail
  refine bodyPost_ret (v := .tuple #[.agg #[.int .i64 c1, .int .i64 r1, .int .i64 c2, .int .i64 r2], .nilIface]) (by simp [results, Try.results31, go_sem, *]) rfl ⟨rfl, ?_⟩
  have B := Kp.end8 K3
  exact (((B.setCell (by simp) _).setCell (by simp) _).setCell (by simp) _).setCell (by simp) _

theorem blk_no (s x1 y1 x2 y2 : Int) (w : World) (h : (shB s && rmayB x1 y1 x2 y2) = false) : Calls Try.prog 31 #[.int .i64 s, .agg #[.int .i64 x1, .int .i64 y1, .int .i64 x2, .int .i64 y2]] w fun e w' =>
    e = .returned (.tuple #[.agg #[.int .i64 0, .int .i64 0, .int .i64 0, .int .i64 0], .iface 37 (.int .i64 1)]) ∧ Below w.heap.size w w' := by
  cases hr : rmayB x1 y1 x2 y2
  · exact blk_bad s x1 y1 x2 y2 w hr
  · exact blk_shift s x1 y1 x2 y2 w hr (by simpa [hr] using h)
end Go.Proofs.Ytkkolodolmppnaa.Cv
