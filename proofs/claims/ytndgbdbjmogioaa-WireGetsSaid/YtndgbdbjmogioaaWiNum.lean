/-
  Contract of number of package wire's writer: a number's bytes behind what was written. All else is left as it was.
-/
import Derived.Test.YtndgbdbjmogioaaWiNumR
import Derived.Lib.Zigzag
namespace Go.Proofs.Ytndgbdbjmogioaa.Wi
open Go.RowKit Go.Proofs.Ytndgbdbjmogioaa.Fl
set_option linter.unusedVariables false
set_option linter.unusedSimpArgs false

theorem WrAt.cell3 {W V : World} {p : Nat} {u : Value} {l : List UInt8} (h : WrAt W p u l) (hg : W.grownBy V u.ownBlock) : V.cell? ⟨p, 0, none⟩ = some u ∧ V.frozen? ⟨p, 0, none⟩ = false := by
  have hp : V.heap[p]? = some (.cells #[u] 55 (0, 0)) := by
    rw [hg.block p h.lt (fun e => by have := (h.2.lt e.symm).1; omega)]
    exact h.1
  constructor <;> simp [World.cell?, World.frozen?, hp]
def NumR (p : Nat) (v : Value) (w : World) (L : List UInt8) (vi : Value) (wr : World) : Prop :=
  ∃ (m : Nat) (acc : List UInt8) (u : Value), vi = .int .u64 (m : Int) ∧ Hid (m < 18446744073709551616) ∧ L = acc ++ numL m ∧ WrAt wr p u acc ∧ Step w wr (some p) v u
set_option maxHeartbeats 1000000 in
set_option maxRecDepth 100000 in
theorem number_any (p n : Nat) (hn : n < 18446744073709551616) (v : Value) (l : List UInt8) (w : World) (hW : WrAt w p v l) (hl : (l ++ numL n).length ≤ 1000000) :
    Calls Try.prog 55 #[.pointer (some ⟨p, 0, none⟩), .int .u64 (n : Nat)] w fun e w' => WrEnd p (l ++ numL n) v w w' e := by
  obtain ⟨i0, hi, hz0, hz1, hz2⟩ := info_parts infoB
  obtain ⟨L, hL⟩ : ∃ L, L = l ++ numL n := ⟨_, rfl⟩
  rw [← hL] at hl ⊢
  have HLL := Lib.hid hL
  have HL := Lib.hid hl
  have HN := Lib.hid hn
  have HW := Lib.hid hW
  clear hL hl hn hW
  go_enter Try.func55, Try.ntmps55
  go_wp2_with fail
  go_loopw [1] (fun vi wr => NumR p v w L vi wr) (fun vi _ => (intOf vi).toNat)
  case atStart => exact ⟨n, l, v, rfl, HN, HLL.out, HW.out, Step.refl _ _ _⟩
  case round =>
    obtain ⟨m, acc, u, rfl, hm, hL, hW, hS⟩ := hrel
    have HS := Lib.hid hS
    have HW := Lib.hid hW
    have HA := Lib.hid hL
    obtain ⟨c0, f0⟩ := hW.cell
    have hpw := hW.lt
    clear hS hW hL
    have HL1 := Lib.hid (show acc.length + 1 ≤ 1000000 by
      have h1 := HL.out
      rw [HA.out, List.length_append] at h1
      have h2 : 0 < (numL m).length := by rw [numL]; split <;> simp
      omega)
    by_cases h : 128 ≤ m
    · have hlt : (128 : Int) ≤ (m : Int) := by omega
      have HM := Lib.hid (numL_large (show ¬ m < 128 by omega))
      have HX := Lib.hid (show bits BinOp.or IntKind.u8 ((m : Int) % 256) 128 = ((m % 128 + 128 : Nat) : Int) by rw [Lib.u8_or128_any _ (by omega) (by omega)]; omega)
      have HB := Lib.hid (show m % 128 + 128 < 256 by omega)
      have HD := Lib.hid (show m / 128 < m by omega)
      obtain ⟨w1, hw1⟩ : ∃ x, x = wr.alloc (.cells #[.int .u8 (bits BinOp.or IntKind.u8 ((m : Int) % 256) 128)] 5) := ⟨_, rfl⟩
      have HW1 := Lib.hid hw1
      have W2 := Lib.hid (show WrAt w1 p u acc by rw [hw1]; exact HW.out.later (below_alloc _ _))
      have N1 := Lib.hid (show ∀ j x, [Value.int .u8 (bits BinOp.or IntKind.u8 ((m : Int) % 256) 128)][j]? = some x → w1.cell? ((⟨wr.heap.size, 0, none⟩ : Addr).add j) = some x by rw [hw1]; exact new_byte _ _ _)
      have Z1 := Lib.hid (show p + 1 ≤ w1.heap.size by rw [hw1]; simp; omega)
      have S1 := Lib.hid (show Step w w1 (some p) v u by rw [hw1]; exact HS.out.alloc _)
      clear hw1 hpw
      clear h
      go_wp2_with (at_builtin; rw [← HW1.out]; refine wpList_append_own_at _ rfl _ _ 34 rfl (p + 1) 5 i0 (.int .u8 0) 1 1 Try.underlying34 hi hz0 hz1 hz2 rfl (by decide) _ _ _ rfl W2.out.2 ⟨wr.heap.size, 0, none⟩ 1 1 [.int .u8 (bits BinOp.or IntKind.u8 ((m : Int) % 256) 128)] rfl rfl N1.out (one_byte _) (by have := HL1.out; unfold maxLen; omega) (by have := HL1.out; omega) Z1.out ?_; intro v' w3 hrow3 hg3 hn3 hat3; obtain ⟨c3, f3⟩ := W2.out.cell3 hg3; obtain ⟨a3, n3, k3, e3⟩ := own_slice hrow3; subst e3)
      obtain ⟨W4, S4⟩ := W2.out.put S1.out (ob_snoc HX.out HB.out hrow3) hg3 (atN hat3)
      go_roundw
      case rel => exact ⟨m / 128, acc ++ [UInt8.ofNat (m % 128 + 128)], _, congrArg (Value.int .u64) (show (m : Int) / 128 = ((m / 128 : Nat) : Int) by omega), Lib.hid (by have := hm.out; have := HD.out; omega), by rw [HA.out, HM.out, List.append_assoc]; rfl, W4, S4⟩
      case measure => have := HD.out; simp [intOf]; omega
    · have hlt : ¬ (128 : Int) ≤ (m : Int) := by omega
      have hlt2 : (m : Int) < 128 := by omega
      have HM := Lib.hid (numL_small (show m < 128 by omega))
      have HB := Lib.hid (show m < 256 by omega)
      obtain ⟨w1, hw1⟩ : ∃ x, x = wr.alloc (.cells #[.int .u8 (m : Int)] 5) := ⟨_, rfl⟩
      have HW1 := Lib.hid hw1
      have W2 := Lib.hid (show WrAt w1 p u acc by rw [hw1]; exact HW.out.later (below_alloc _ _))
      have N1 := Lib.hid (show ∀ j x, [Value.int .u8 (m : Int)][j]? = some x → w1.cell? ((⟨wr.heap.size, 0, none⟩ : Addr).add j) = some x by rw [hw1]; exact new_byte _ _ _)
      have Z1 := Lib.hid (show p + 1 ≤ w1.heap.size by rw [hw1]; simp; omega)
      have S1 := Lib.hid (show Step w w1 (some p) v u by rw [hw1]; exact HS.out.alloc _)
      clear hw1 hpw
      clear h
      go_wp2_with (at_builtin; rw [← HW1.out]; refine wpList_append_own_at _ rfl _ _ 34 rfl (p + 1) 5 i0 (.int .u8 0) 1 1 Try.underlying34 hi hz0 hz1 hz2 rfl (by decide) _ _ _ rfl W2.out.2 ⟨wr.heap.size, 0, none⟩ 1 1 [.int .u8 (m : Int)] rfl rfl N1.out (one_byte _) (by have := HL1.out; unfold maxLen; omega) (by have := HL1.out; omega) Z1.out ?_; intro v' w3 hrow3 hg3 hn3 hat3; obtain ⟨c3, f3⟩ := W2.out.cell3 hg3; obtain ⟨a3, n3, k3, e3⟩ := own_slice hrow3; subst e3)
      obtain ⟨W4, S4⟩ := W2.out.put S1.out (ob_snoc rfl HB.out hrow3) hg3 (atN hat3)
      refine bodyPost_end (results_none rfl _ _ _) rfl ?_
      refine ⟨rfl, _, ?_, S4⟩
      rw [HA.out, HM.out]
      exact W4
/-- Numbers with a sign, as they are reckoned. -/
theorem zig_lt' {n : Int} (h1 : -9223372036854775808 ≤ n) (h2 : n ≤ 9223372036854775807) : zig n < 18446744073709551616 := by have := zig_lt h1 h2; omega
theorem zig_low {n : Int} (h1 : -9223372036854775808 ≤ n) (h : n < 0) : IntKind.u64.wrap (IntKind.u64.wrap (2 * IntKind.u64.wrap (wrap64 (-wrap64 (n + 1)))) + 1) = ((zig n : Nat) : Int) := by
  have e1 : wrap64 (n + 1) = n + 1 := by unfold wrap64; omega
  have e2 : wrap64 (-(n + 1)) = -(n + 1) := by unfold wrap64; omega
  have e3 : IntKind.u64.wrap (-(n + 1)) = -(n + 1) := by rw [IntKind.wrap_u64]; omega
  have e4 : IntKind.u64.wrap (2 * -(n + 1)) = 2 * -(n + 1) := by rw [IntKind.wrap_u64]; omega
  have e5 : IntKind.u64.wrap (2 * -(n + 1) + 1) = 2 * -(n + 1) + 1 := by rw [IntKind.wrap_u64]; omega
  rw [e1, e2, e3, e4, e5]
  clear e1 e2 e3 e4 e5
  unfold zig
  rw [if_pos h]
  omega
theorem zig_high {n : Int} (h1 : n ≤ 9223372036854775807) (h : ¬ n < 0) : IntKind.u64.wrap (2 * IntKind.u64.wrap n) = ((zig n : Nat) : Int) := by
  have e3 : IntKind.u64.wrap n = n := by rw [IntKind.wrap_u64]; omega
  have e4 : IntKind.u64.wrap (2 * n) = 2 * n := by rw [IntKind.wrap_u64]; omega
  rw [e3, e4]
  clear e3 e4
  unfold zig
  rw [if_neg h]
  omega
theorem zig_same (n : Int) : Lib.zigzag n = zig n := by unfold Lib.zigzag zig; split <;> split <;> omega
theorem zig_xor {n : Int} (h1 : -9223372036854775808 ≤ n) (h2 : n ≤ 9223372036854775807) : bits BinOp.xor IntKind.u64 (IntKind.u64.wrap (IntKind.u64.wrap n * 2)) (IntKind.u64.wrap (n / 9223372036854775808)) = ((zig n : Nat) : Int) := by
  by_cases h : n < 0
  · have e1 : IntKind.u64.wrap (n / 9223372036854775808) = IntKind.u64.max := by
      rw [show n / 9223372036854775808 = -1 by omega]
      rfl
    have e2 := Lib.zigzag_neg h1 h
    rw [e1, ← zig_same, ← e2]
    obtain ⟨x, hx⟩ : ∃ x : Nat, IntKind.u64.wrap (IntKind.u64.wrap n * 2) = (x : Int) ∧ x < 18446744073709551616 := by
      rw [IntKind.wrap_u64]
      refine ⟨((IntKind.u64.wrap n * 2) % 18446744073709551616).toNat, ?_, ?_⟩ <;> omega
    rw [hx.1, show IntKind.u64.max = ((2 ^ 64 - 1 : Nat) : Int) by decide, bits_xor_u64_nat _ _ hx.2 (by decide), bits_xor_u64_nat _ _ (by decide) hx.2, Nat.xor_comm]
  · have e1 : IntKind.u64.wrap (n / 9223372036854775808) = ((0 : Nat) : Int) := by
      rw [show n / 9223372036854775808 = 0 by omega]
      rfl
    have e2 := zig_high h2 h
    rw [show 2 * IntKind.u64.wrap n = IntKind.u64.wrap n * 2 by omega] at e2
    rw [e2, e1, bits_xor_u64_nat _ _ (zig_lt' h1 h2) (by decide), Nat.xor_zero]
end Go.Proofs.Ytndgbdbjmogioaa.Wi
