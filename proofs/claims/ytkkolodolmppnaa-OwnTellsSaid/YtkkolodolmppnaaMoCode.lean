/-
  Contracts of layer 4 (morton) on numbers of cells: fits, spread, Code, and the document's Code. Memory is left as it was.
-/
import Derived.Test.YtkkolodolmppnaaProg
import Derived.Test.YtkkolodolmppnaaMoBits
import Derived.WalkKit
import Derived.WalkSpells
import Derived.RowKit3
import Derived.Below
import Derived.Lib.Hide
import Derived.Laws.Bits64b
namespace Go.Proofs.Ytkkolodolmppnaa.Mo
open Go.RowKit

/-- May a column, or a row, have a number? -/
def fitB (n : Int) : Bool := decide (0 ≤ n) && decide (n ≤ 2147483647)
theorem fitB_iff {n : Int} : fitB n = true ↔ 0 ≤ n ∧ n ≤ 2147483647 := by simp [fitB]
theorem fitB_no {n : Int} (h : fitB n = false) : n < 0 ∨ 2147483647 < n := by
  have : ¬ (0 ≤ n ∧ n ≤ 2147483647) := fun h1 => by rw [fitB_iff.2 h1] at h; cases h
  omega
theorem fitB_nat {n : Int} (h : fitB n = true) : ∃ k : Nat, n = k ∧ k < 2147483648 := by
  obtain ⟨h1, h2⟩ := fitB_iff.1 h
  exact ⟨n.toNat, by omega, by omega⟩
theorem fitB_of {k : Nat} (h : k < 2147483648) : fitB k = true := fitB_iff.2 (by omega)

theorem upI (b g m r : Nat) (hb : b < 18446744073709551616) (hm : m < 18446744073709551616) (h : (b ||| b * g % 18446744073709551616) &&& m = r) :
    bits .and .u64 (bits .or .u64 (b : Int) (IntKind.u64.wrap ((b : Int) * (g : Int)))) (m : Int) = (r : Int) := by
  have e : IntKind.u64.wrap ((b : Int) * (g : Int)) = ((b * g % 18446744073709551616 : Nat) : Int) := by rw [IntKind.wrap_u64]; simp
  have ho : b ||| b * g % 18446744073709551616 < 2 ^ 64 := Nat.or_lt_two_pow hb (Nat.mod_lt _ (by decide))
  rw [e, bits_or_u64_nat _ _ hb (Nat.mod_lt _ (by decide)), bits_and_u64_nat _ _ ho hm, h]
theorem upI0 (b g m r : Nat) (hb : b * g < 18446744073709551616) (hg : 0 < g) (hm : m < 18446744073709551616) (h : (b ||| b * g % 18446744073709551616) &&& m = r) :
    bits .and .u64 (bits .or .u64 (b : Int) ((b : Int) * (g : Int))) (m : Int) = (r : Int) := by
  have hb' : b < 18446744073709551616 := Nat.lt_of_le_of_lt (Nat.le_mul_of_pos_right b hg) hb
  rw [Nat.mod_eq_of_lt hb] at h
  have ho : b ||| b * g < 2 ^ 64 := Nat.or_lt_two_pow hb' hb
  rw [show (b : Int) * (g : Int) = ((b * g : Nat) : Int) by simp, bits_or_u64_nat _ _ hb' hb, bits_and_u64_nat _ _ ho hm, h]
theorem and_lt {b m : Nat} (hm : m < 18446744073709551616) : b &&& m < 18446744073709551616 := Nat.lt_of_le_of_lt Nat.and_le_right hm

theorem fits_any (n : Int) (w : World) : Calls Try.prog 29 #[.int .i64 n] w fun e w' => e = .returned (.bool (fitB n)) ∧ w = w' := by
  go_enter Try.func29, Try.ntmps29
  go_wp2
  all_goals (go_ret; exact ⟨by simp [fitB, *] <;> omega, rfl⟩)

theorem spread_any (n : Nat) (h : n < 2147483648) (w : World) : Calls Try.prog 30 #[.int .i64 n] w fun e w' => e = .returned (.int .u64 (codeF 31 n 0 : Nat)) ∧ w = w' := by
  go_enter Try.func30, Try.ntmps30
  go_wp2
  have e := spreadN_eq (n := n) h
  obtain ⟨b1, h1⟩ : ∃ b, upN 16 281470681808895 n = b := ⟨_, rfl⟩
  obtain ⟨b2, h2⟩ : ∃ b, upN 8 71777214294589695 b1 = b := ⟨_, rfl⟩
  obtain ⟨b3, h3⟩ : ∃ b, upN 4 1085102592571150095 b2 = b := ⟨_, rfl⟩
  obtain ⟨b4, h4⟩ : ∃ b, upN 2 3689348814741910323 b3 = b := ⟨_, rfl⟩
  obtain ⟨b5, h5⟩ : ∃ b, upN 1 6148914691236517205 b4 = b := ⟨_, rfl⟩
  have l1 : b1 < 18446744073709551616 := by rw [← h1]; exact and_lt (by decide)
  have l2 : b2 < 18446744073709551616 := by rw [← h2]; exact and_lt (by decide)
  have l3 : b3 < 18446744073709551616 := by rw [← h3]; exact and_lt (by decide)
  have l4 : b4 < 18446744073709551616 := by rw [← h4]; exact and_lt (by decide)
  have g1 := upI0 n 65536 281470681808895 b1 (by omega) (by decide) (by decide) h1
  have g2 := upI b1 256 71777214294589695 b2 l1 (by decide) h2
  have g3 := upI b2 16 1085102592571150095 b3 l2 (by decide) h3
  have g4 := upI b3 4 3689348814741910323 b4 l3 (by decide) h4
  have g5 := upI b4 2 6148914691236517205 b5 l4 (by decide) h5
  simp only [Int.cast_ofNat_Int] at g1 g2 g3 g4 g5
  simp only [g1, g2, g3, g4, g5]
  go_ret
  unfold spreadN at e
  rw [h1, h2, h3, h4, h5] at e
  exact ⟨by rw [← e]; rfl, rfl⟩

theorem code_no (c r : Int) (w : World) (h : (fitB c && fitB r) = false) : Calls Try.prog 17 #[.int .i64 c, .int .i64 r] w fun e w' => e = .returned (.tuple #[.int .u64 0, .iface 37 (.int .i64 1)]) ∧ w = w' := by
  cases h1 : fitB c
  · go_enter Try.func17, Try.ntmps17
    go_wp2_with (go_at_call 29; refine (fits_any _ _).mono ?_; rintro e w' ⟨rfl, rfl⟩)
    exact bodyPost_ret (v := .tuple #[.int .u64 0, .iface 37 (.int .i64 1)]) (by simp [results, Try.results17, go_sem]) rfl ⟨rfl, rfl⟩
  · rw [h1, Bool.true_and] at h
    go_enter Try.func17, Try.ntmps17
    go_wp2_with (go_at_call 29; refine (fits_any _ _).mono ?_; rintro e w' ⟨rfl, rfl⟩)
    exact bodyPost_ret (v := .tuple #[.int .u64 0, .iface 37 (.int .i64 1)]) (by simp [results, Try.results17, go_sem]) rfl ⟨rfl, rfl⟩

theorem code_yes (c r : Nat) (w : World) (hc : c < 2147483648) (hr : r < 2147483648) : Calls Try.prog 17 #[.int .i64 c, .int .i64 r] w fun e w' => e = .returned (.tuple #[.int .u64 (codeF 31 c r : Nat), .nilIface]) ∧ w = w' := by
  have h1 := fitB_of hc
  have h2 := fitB_of hr
  have k1 := codeF_lt 31 c 0
  have k2 := codeF_lt 31 r 0
  have ko := codeF_or c r
  obtain ⟨x, hx⟩ : ∃ x, codeF 31 c 0 = x := ⟨_, rfl⟩
  obtain ⟨y, hy⟩ : ∃ y, codeF 31 r 0 = y := ⟨_, rfl⟩
  obtain ⟨z, hz⟩ : ∃ z, codeF 31 c r = z := ⟨_, rfl⟩
  rw [hx, hy, hz] at ko
  rw [hx] at k1
  rw [hy] at k2
  have g : bits .or .u64 (x : Int) ((y : Int) * 2) = (z : Int) := by
    have := bits_or_u64_nat x (y * 2) (by omega) (by omega)
    rw [ko] at this
    rw [← this]
    simp
  have C1 := spread_any c hc
  have C2 := spread_any r hr
  rw [hx] at C1
  rw [hy] at C2
  rw [hz]
  clear hx hy hz ko
  go_enter Try.func17, Try.ntmps17
  go_wp2_with (first | (go_at_call 29; refine (fits_any _ _).mono ?_; rintro e w' ⟨rfl, rfl⟩) | fail)
  refine (C1 _).mono ?_
  rintro e w1 ⟨rfl, rfl⟩
  go_wp2_with fail
  refine (C2 _).mono ?_
  rintro e w1 ⟨rfl, rfl⟩
  go_wp2_with fail
  exact bodyPost_ret (v := .tuple #[.int .u64 z, .nilIface]) (by simp [results, Try.results17, go_sem]) rfl ⟨rfl, rfl⟩

theorem refCode_any : ∀ (k c r : Nat) (w : World), k ≤ 31 → c < 2 ^ k → r < 2 ^ k → Calls Try.prog 22 #[.int .i64 c, .int .i64 r] w fun e w' => e = .returned (.int .u64 (codeF k c r : Nat)) ∧ w = w'
  | 0, c, r, w, _, hc, hr => by
    obtain rfl : c = 0 := by simpa using hc
    obtain rfl : r = 0 := by simpa using hr
    go_enter Try.func22, Try.ntmps22
    go_wp2_with fail
    go_ret
    exact ⟨rfl, rfl⟩
  | k + 1, c, r, w, hk, hc, hr => by
    have C := refCode_any k (c / 2) (r / 2)
    have hc' := half_lt hc
    have hr' := half_lt hr
    have l := codeF_lt k (c / 2) (r / 2)
    have l4 : 4 ^ k ≤ 4 ^ 30 := Nat.pow_le_pow_right (by decide) (by omega)
    have l2 : 2 ^ (k + 1) ≤ 2 ^ 31 := Nat.pow_le_pow_right (by decide) hk
    rw [codeF_succ]
    obtain ⟨z, hz⟩ : ∃ z, codeF k (c / 2) (r / 2) = z := ⟨_, rfl⟩
    rw [hz] at l C ⊢
    have lz : z < 4 ^ 30 := by omega
    have lc : c < 2147483648 := by omega
    have lr : r < 2147483648 := by omega
    have C0 := C w (by omega) hc' hr'
    clear l l4 l2 hc hr C hc' hr'
    by_cases h : c = 0
    · subst h
      by_cases h : r = 0
      · subst h
        rw [Nat.zero_div, codeF_zero] at hz
        subst hz
        clear C0
        go_enter Try.func22, Try.ntmps22
        go_wp2_with fail
        go_ret
        exact ⟨rfl, rfl⟩
      · have hr : ((r : Int) == 0) = false := by simp; omega
        simp only [Nat.zero_div, Int.natCast_ediv, Int.cast_ofNat_Int] at C0
        clear hz
        go_enter Try.func22, Try.ntmps22
        go_wp2_with fail
        refine C0.mono ?_
        rintro e w1 ⟨rfl, rfl⟩
        go_wp2_with fail
        go_ret
        refine ⟨?_, rfl⟩
        simp
    · have hc : ((c : Int) == 0) = false := by simp; omega
      simp only [Int.natCast_ediv, Int.cast_ofNat_Int] at C0
      clear hz
      go_enter Try.func22, Try.ntmps22
      go_wp2_with fail
      refine C0.mono ?_
      rintro e w1 ⟨rfl, rfl⟩
      go_wp2_with fail
      go_ret
      refine ⟨?_, rfl⟩
      simp
end Go.Proofs.Ytkkolodolmppnaa.Mo
