/-
  Contract of cover.Same. Memory that was there is left as it was.
-/
import Derived.Test.YtdklmempblidoaaCvBlock
import Derived.Test.YtdklmempblidoaaCvPlain
namespace Go.Proofs.Ytdklmempblidoaa.Cv
open Go.RowKit Go.Proofs.Ytdklmempblidoaa.Pt Go.Proofs.Ytdklmempblidoaa.Rc Go.Proofs.Ytdklmempblidoaa.Mo
set_option linter.unusedVariables false

theorem eql_nil_nil (w : World) : (binOp .eql 29 .nilIface .nilIface).run Try.prog w = .ok (.bool true) w := by kernel_rfl
theorem eql_arg_nil (w : World) : (binOp .eql 29 (.iface 34 (.int .i64 1)) .nilIface).run Try.prog w = .ok (.bool false) w := by kernel_rfl
def eqB (a b c d a' b' c' d' : Int) : Bool := decide (a = a') && (decide (b = b') && (decide (c = c') && decide (d = d')))
theorem eqB_iff {a b c d a' b' c' d' : Int} : eqB a b c d a' b' c' d' = true ↔ a = a' ∧ b = b' ∧ c = c' ∧ d = d' := by unfold eqB; simp

set_option maxHeartbeats 1000000 in
theorem same_a (s ax1 ay1 ax2 ay2 bx1 by1 bx2 by2 : Int) (w : World) (h : (shB s && rmayB ax1 ay1 ax2 ay2) = false) : Calls Try.prog 10 #[.int .i64 s, .agg #[.int .i64 ax1, .int .i64 ay1, .int .i64 ax2, .int .i64 ay2], .agg #[.int .i64 bx1, .int .i64 by1, .int .i64 bx2, .int .i64 by2]] w fun e w' => e = .returned (.bool false) ∧ Below w.heap.size w w' := by
  have q1 := neq_arg_nil
  have K0 := Lib.hid (Kp.adq4 (Kp.adq0 ⟨Nat.le_refl _, Below.refl w.heap.size w⟩ w.heap.size rfl (.int .i64 ax1) (.int .i64 ay1) (.int .i64 ax2) (.int .i64 ay2) 23) (w.heap.size + 1) (by simp) (.int .i64 bx1) (.int .i64 by1) (.int .i64 bx2) (.int .i64 by2) 23)
  go_enter Try.func10, Try.ntmps10
  go_wp2_with fail
  refine (blk_no s ax1 ay1 ax2 ay2 _ h).mono ?_
  rintro e w1 ⟨rfl, hb1⟩
  have L1 := Kp.keep8 hb1 K0.out
  have B1 := Lib.hid (Kp.end8 L1)
  have Z1 := L1.2.2.2.2.2.2.2.2.1
  clear K0 hb1
  go_wp2_with fail
  go_ret
  exact ⟨rfl, B1.out.alloc Z1 _⟩

set_option maxHeartbeats 1000000 in
theorem same_b (k : Nat) (ax1 ay1 ax2 ay2 bx1 by1 bx2 by2 : Int) (w : World) (h1 : 24 ≤ k) (h2 : k ≤ 31) (ha : rmayB ax1 ay1 ax2 ay2 = true) (hb : rmayB bx1 by1 bx2 by2 = false) : Calls Try.prog 10 #[.int .i64 k, .agg #[.int .i64 ax1, .int .i64 ay1, .int .i64 ax2, .int .i64 ay2], .agg #[.int .i64 bx1, .int .i64 by1, .int .i64 bx2, .int .i64 by2]] w fun e w' => e = .returned (.bool false) ∧ Below w.heap.size w w' := by
  have q1 := neq_nil_nil
  have q2 := eql_arg_nil
  have K0 := Lib.hid (Kp.adq4 (Kp.adq0 ⟨Nat.le_refl _, Below.refl w.heap.size w⟩ w.heap.size rfl (.int .i64 ax1) (.int .i64 ay1) (.int .i64 ax2) (.int .i64 ay2) 23) (w.heap.size + 1) (by simp) (.int .i64 bx1) (.int .i64 by1) (.int .i64 bx2) (.int .i64 by2) 23)
  go_enter Try.func10, Try.ntmps10
  go_wp2_with fail
  refine (blk_yes k ax1 ay1 ax2 ay2 _ h1 h2 ha).mono ?_
  rintro e w1 ⟨rfl, hb1⟩
  have L1 := Kp.keep8 hb1 K0.out
  have K1 := Kp.adq8 L1 w1.heap.size rfl (.int .i64 (colI k ax1)) (.int .i64 (colI k ay1)) (.int .i64 (colI k ax2)) (.int .i64 (colI k ay2)) 50
  clear K0 hb1
  go_wp2_with fail
  refine (blk_bad k bx1 by1 bx2 by2 _ hb).mono ?_
  rintro e w2 ⟨rfl, hb2⟩
  have L2 := Kp.keep12 hb2 K1
  have B2 := Lib.hid (Kp.end12 L2)
  have Z2 := L2.2.2.2.2.2.2.2.2.2.2.2.2.1
  clear K1 L1 hb2
  go_wp2_with fail
  go_ret
  exact ⟨rfl, B2.out.alloc Z2 _⟩

set_option maxHeartbeats 1000000 in
theorem same_yes (k : Nat) (ax1 ay1 ax2 ay2 bx1 by1 bx2 by2 : Int) (w : World) (h1 : 24 ≤ k) (h2 : k ≤ 31) (ha : rmayB ax1 ay1 ax2 ay2 = true) (hb : rmayB bx1 by1 bx2 by2 = true) : Calls Try.prog 10 #[.int .i64 k, .agg #[.int .i64 ax1, .int .i64 ay1, .int .i64 ax2, .int .i64 ay2], .agg #[.int .i64 bx1, .int .i64 by1, .int .i64 bx2, .int .i64 by2]] w fun e w' =>
    e = .returned (.bool (eqB (colI k ax1) (colI k ay1) (colI k ax2) (colI k ay2) (colI k bx1) (colI k by1) (colI k bx2) (colI k by2))) ∧ Below w.heap.size w w' := by
  have q1 := neq_nil_nil
  have q2 := eql_nil_nil
  have C1 := Lib.hid (fun W => blk_yes k ax1 ay1 ax2 ay2 W h1 h2 ha)
  have C2 := Lib.hid (fun W => blk_yes k bx1 by1 bx2 by2 W h1 h2 hb)
  obtain ⟨a1, e1⟩ : ∃ c, c = colI k ax1 := ⟨_, rfl⟩
  obtain ⟨a2, e2⟩ : ∃ c, c = colI k ay1 := ⟨_, rfl⟩
  obtain ⟨a3, e3⟩ : ∃ c, c = colI k ax2 := ⟨_, rfl⟩
  obtain ⟨a4, e4⟩ : ∃ c, c = colI k ay2 := ⟨_, rfl⟩
  obtain ⟨b1, e5⟩ : ∃ c, c = colI k bx1 := ⟨_, rfl⟩
  obtain ⟨b2, e6⟩ : ∃ c, c = colI k by1 := ⟨_, rfl⟩
  obtain ⟨b3, e7⟩ : ∃ c, c = colI k bx2 := ⟨_, rfl⟩
  obtain ⟨b4, e8⟩ : ∃ c, c = colI k by2 := ⟨_, rfl⟩
  rw [← e1, ← e2, ← e3, ← e4] at C1
  rw [← e5, ← e6, ← e7, ← e8] at C2
  rw [← e1, ← e2, ← e3, ← e4, ← e5, ← e6, ← e7, ← e8]
  clear e1 e2 e3 e4 e5 e6 e7 e8 ha hb
  have K0 := Lib.hid (Kp.adq4 (Kp.adq0 ⟨Nat.le_refl _, Below.refl w.heap.size w⟩ w.heap.size rfl (.int .i64 ax1) (.int .i64 ay1) (.int .i64 ax2) (.int .i64 ay2) 23) (w.heap.size + 1) (by simp) (.int .i64 bx1) (.int .i64 by1) (.int .i64 bx2) (.int .i64 by2) 23)
  go_enter Try.func10, Try.ntmps10
  go_wp2_with fail
  refine (C1.out _).mono ?_
  rintro e w1 ⟨rfl, hb1⟩
  have L1 := Kp.keep8 hb1 K0.out
  have K1 := Kp.adq8 L1 w1.heap.size rfl (.int .i64 a1) (.int .i64 a2) (.int .i64 a3) (.int .i64 a4) 50
  clear K0 hb1
  go_wp2_with fail
  refine (C2.out _).mono ?_
  rintro e w2 ⟨rfl, hb2⟩
  have L2 := Kp.keep12 hb2 K1
  have B2 := Lib.hid (Kp.end12 L2)
  have Z2 := L2.2.2.2.2.2.2.2.2.2.2.2.2.1
  have K2 := Kp.adq12 L2 w2.heap.size rfl (.int .i64 b1) (.int .i64 b2) (.int .i64 b3) (.int .i64 b4) 50
  clear K1 L1 hb2
  go_wp2_with fail
  all_goals (go_ret; exact ⟨by simp [eqB, *], B2.out.alloc Z2 _⟩)
end Go.Proofs.Ytdklmempblidoaa.Cv
