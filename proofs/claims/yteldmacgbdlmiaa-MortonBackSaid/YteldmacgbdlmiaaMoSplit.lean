/-
  Contracts of layer 4 (morton): gather and Split. Memory is left as it was.
-/
import Derived.Test.YteldmacgbdlmiaaMoCode
namespace Go.Proofs.Yteldmacgbdlmiaa.Mo
open Go.RowKit

theorem downI (b g m r : Nat) (hb : b < 18446744073709551616) (hm : m < 18446744073709551616) (h : (b ||| b / g) &&& m = r) :
    bits .and .u64 (bits .or .u64 (b : Int) ((b : Int) / (g : Int))) (m : Int) = (r : Int) := by
  have hd : b / g < 18446744073709551616 := Nat.lt_of_le_of_lt (Nat.div_le_self _ _) hb
  have ho : b ||| b / g < 2 ^ 64 := Nat.or_lt_two_pow hb hd
  rw [show (b : Int) / (g : Int) = ((b / g : Nat) : Int) by simp, bits_or_u64_nat _ _ hb hd, bits_and_u64_nat _ _ ho hm, h]

theorem gather_any (c : Nat) (h : c < 18446744073709551616) (w : World) : Calls Try.prog 29 #[.int .u64 c] w fun e w' => e = .returned (.int .i64 (evenF 31 c : Nat)) ∧ w = w' := by
  go_enter Try.func29, Try.ntmps29
  go_wp2
  have e := gatherN_eq c
  obtain ⟨b0, h0⟩ : ∃ b, c &&& 6148914691236517205 = b := ⟨_, rfl⟩
  obtain ⟨b1, h1⟩ : ∃ b, downN 1 3689348814741910323 b0 = b := ⟨_, rfl⟩
  obtain ⟨b2, h2⟩ : ∃ b, downN 2 1085102592571150095 b1 = b := ⟨_, rfl⟩
  obtain ⟨b3, h3⟩ : ∃ b, downN 4 71777214294589695 b2 = b := ⟨_, rfl⟩
  obtain ⟨b4, h4⟩ : ∃ b, downN 8 281470681808895 b3 = b := ⟨_, rfl⟩
  obtain ⟨b5, h5⟩ : ∃ b, downN 16 2147483647 b4 = b := ⟨_, rfl⟩
  have l0 : b0 < 18446744073709551616 := by rw [← h0]; exact and_lt (by decide)
  have l1 : b1 < 18446744073709551616 := by rw [← h1]; exact and_lt (by decide)
  have l2 : b2 < 18446744073709551616 := by rw [← h2]; exact and_lt (by decide)
  have l3 : b3 < 18446744073709551616 := by rw [← h3]; exact and_lt (by decide)
  have l4 : b4 < 18446744073709551616 := by rw [← h4]; exact and_lt (by decide)
  have l5 : b5 ≤ 2147483647 := by rw [← h5]; exact Nat.and_le_right
  have g0 := bits_and_u64_nat c 6148914691236517205 h (by decide)
  rw [h0] at g0
  have g1 := downI b0 2 3689348814741910323 b1 l0 (by decide) h1
  have g2 := downI b1 4 1085102592571150095 b2 l1 (by decide) h2
  have g3 := downI b2 16 71777214294589695 b3 l2 (by decide) h3
  have g4 := downI b3 256 281470681808895 b4 l3 (by decide) h4
  have g5 := downI b4 65536 2147483647 b5 l4 (by decide) h5
  have g6 : wrap64 (b5 : Int) = b5 := by unfold wrap64; omega
  simp only [Int.cast_ofNat_Int] at g0 g1 g2 g3 g4 g5
  simp only [g0, g1, g2, g3, g4, g5, g6]
  go_ret
  unfold gatherN at e
  rw [h0, h1, h2, h3, h4, h5] at e
  exact ⟨by rw [← e]; rfl, rfl⟩

theorem split_any (c : Nat) (h : c < 18446744073709551616) (w : World) : Calls Try.prog 16 #[.int .u64 c] w fun e w' => e = .returned (.tuple #[.int .i64 (evenF 31 c : Nat), .int .i64 (oddF 31 c : Nat)]) ∧ w = w' := by
  have C2 := gather_any (c / 2) (by omega)
  rw [← oddF_eq] at C2
  go_enter Try.func16, Try.ntmps16
  go_wp2_with fail
  refine (gather_any c h _).mono ?_
  rintro e w1 ⟨rfl, rfl⟩
  go_wp2_with fail
  rw [show (c : Int) / 2 = ((c / 2 : Nat) : Int) by simp]
  refine (C2 _).mono ?_
  rintro e w1 ⟨rfl, rfl⟩
  go_wp2_with fail
  exact bodyPost_ret (v := .tuple #[.int .i64 (evenF 31 c : Nat), .int .i64 (oddF 31 c : Nat)]) (by simp [results, Try.results16, go_sem]) rfl ⟨rfl, rfl⟩
end Go.Proofs.Yteldmacgbdlmiaa.Mo
