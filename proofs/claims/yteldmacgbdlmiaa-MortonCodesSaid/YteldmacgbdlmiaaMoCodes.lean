/-
  The walk of the statement MortonCodes: whatever column, row and number it is given, it returns true, and memory is left as it was.
-/
import Derived.Test.YteldmacgbdlmiaaMoUp
namespace Go.Proofs.Yteldmacgbdlmiaa.Mo
open Go.RowKit

set_option maxHeartbeats 1000000 in
theorem codes_any (c r : Int) (n : Nat) (w : World) (hn : n < 18446744073709551616) : Calls Try.prog 4 #[.int .i64 c, .int .i64 r, .int .u64 n] w fun e w' => e = .returned (.bool true) ∧ w = w' := by
  have Cs := split_any n hn
  have q1 := neq_arg
  have q2 := neq_nil_nil
  obtain ⟨x, hx⟩ : ∃ x, x = evenF 31 n := ⟨_, rfl⟩
  obtain ⟨y, hy⟩ : ∃ y, y = oddF 31 n := ⟨_, rfl⟩
  have Cr := fun W => refCode_any 31 x y W (Nat.le_refl _) (by rw [hx]; exact evenF_lt 31 n) (by rw [hy]; exact oddF_lt 31 n)
  have e := codeF_split 31 n
  rw [← hx, ← hy] at e Cs
  rw [e] at Cr
  obtain ⟨m, hm⟩ : ∃ m, m = n % 4 ^ 31 := ⟨_, rfl⟩
  rw [← hm] at Cr
  have hz : Int.tmod (n : Int) 4611686018427387904 = (m : Int) := by
    rw [hm, Int.tmod_eq_emod_of_nonneg (by omega)]
    simp
  clear hx hy e hm
  cases hf : (fitB c && fitB r)
  · have Cc := fun W => code_no c r W hf
    have hh : c < 0 ∨ (¬ c < 0 ∧ (r < 0 ∨ (¬ r < 0 ∧ (2147483647 < c ∨ (¬ 2147483647 < c ∧ 2147483647 < r))))) := by
      rw [Bool.and_eq_false_iff] at hf
      rcases hf with h | h <;> have := fitB_no h <;> omega
    clear hf
    rcases hh with h | ⟨h1, h | ⟨h2, h | ⟨h3, h⟩⟩⟩
    all_goals
      go_enter Try.func4, Try.ntmps4
      go_wp2_with (first | (go_at_call 6; refine (up_any _).mono ?_; rintro e w' ⟨rfl, rfl⟩) | (go_at_call 15; refine (Cc _).mono ?_; rintro e w' ⟨rfl, rfl⟩) | (go_at_call 16; refine (Cs _).mono ?_; rintro e w' ⟨rfl, rfl⟩) | (go_at_call 17; refine (Cr _).mono ?_; rintro e w' ⟨rfl, rfl⟩))
      go_ret
      exact ⟨by simp, rfl⟩
  · rw [Bool.and_eq_true] at hf
    obtain ⟨a, rfl, ha⟩ := fitB_nat hf.1
    obtain ⟨b, rfl, hb⟩ := fitB_nat hf.2
    have Cc := fun W => code_yes a b W ha hb
    have Cr2 := fun W => refCode_any 31 a b W (Nat.le_refl _) ha hb
    obtain ⟨z, hz'⟩ : ∃ z, z = codeF 31 a b := ⟨_, rfl⟩
    rw [← hz'] at Cc Cr2
    clear hf hz'
    go_enter Try.func4, Try.ntmps4
    go_wp2_with (first | (go_at_call 6; refine (up_any _).mono ?_; rintro e w' ⟨rfl, rfl⟩) | (go_at_call 15; refine (Cc _).mono ?_; rintro e w' ⟨rfl, rfl⟩) | (go_at_call 16; refine (Cs _).mono ?_; rintro e w' ⟨rfl, rfl⟩))
    refine (Cr2 _).mono ?_
    rintro e w1 ⟨rfl, rfl⟩
    go_wp2_with fail
    refine (Cr _).mono ?_
    rintro e w1 ⟨rfl, rfl⟩
    go_wp2_with fail
    go_ret
    exact ⟨by simp, rfl⟩
theorem codes_law (c r : Int) (n : Nat) (w : World) (hn : n < 18446744073709551616) : Calls Try.prog 4 #[.int .i64 c, .int .i64 r, .int .u64 n] w fun e w' => e = .returned (.bool true) ∧ Below w.heap.size w w' :=
  (codes_any c r n w hn).mono fun _ _ h => ⟨h.1, h.2 ▸ Below.refl _ _⟩
end Go.Proofs.Yteldmacgbdlmiaa.Mo
