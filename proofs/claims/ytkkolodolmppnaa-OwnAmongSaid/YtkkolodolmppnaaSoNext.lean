/-
  Contracts of slices.nextPowerOfTwo and of (*slices.xorshift).Next: its cell holds some uint64 behind it, and nothing else is written.
-/
import Derived.Test.YtkkolodolmppnaaSoPick
import Derived.Test.YtkkolodolmppnaaSoLen
import Derived.Lib.BitFns
import Derived.Laws.Bits64
import Derived.Laws.Bits64b
namespace Go.Proofs.Ytkkolodolmppnaa.So
open Go.RowKit
set_option linter.unusedVariables false

theorem wrap_two {k : Nat} (hk : k ≤ 62) : IntKind.u64.wrap ((2 : Int) ^ k) = ((2 ^ k : Nat) : Int) := by
  have h : (2 : Nat) ^ k ≤ 2 ^ 62 := Nat.pow_le_pow_right (by decide) hk
  rw [IntKind.wrap_u64, show ((2 : Int) ^ k) = ((2 ^ k : Nat) : Int) by push_cast; rfl]
  generalize (2 : Nat) ^ k = p at h ⊢
  omega

theorem pow_any (n : Nat) (w : World) (h0 : 0 < n) (hn : n < 2305843009213693952) :
    Calls Try.prog 56 #[.int .i64 n] w fun e w' => ∃ m : Nat, e = .returned (.int .u64 m) ∧ 0 < m ∧ m ≤ 2 * n ∧ w' = w := by
  have hl : ∀ W, Calls Try.prog 40 #[.int .u64 (n : Int)] W fun e w' => e = .returned (.int .i64 (Lib.bitLen n)) ∧ w' = W := fun W => by
    have := len_any (n : Int) W (by omega) (by omega)
    rwa [Int.toNat_natCast] at this
  have hk : Lib.bitLen n ≤ 62 := Lib.bitLen_le n 62 (by omega) (by omega)
  have h2 := two_bitLen h0
  have h3 : 0 < 2 ^ Lib.bitLen n := Nat.two_pow_pos _
  have hw := wrap_two hk
  obtain ⟨k, hke⟩ : ∃ k, k = Lib.bitLen n := ⟨_, rfl⟩
  rw [← hke] at hk h2 h3 hw
  simp only [← hke] at hl
  have H2 := Lib.hid h2
  have H3 := Lib.hid h3
  clear h2 h3 hke
  go_enter Try.func56, Try.ntmps56
  go_wp2_with (first | (go_at_call 40; refine (hl _).mono ?_; rintro e w' ⟨rfl, rfl⟩))
  go_ret
  exact ⟨2 ^ k, by simp, H3.out, H2.out, rfl⟩


theorem set_set (w : World) (blk off : Nat) (v v' : Value) : (w.setCell ⟨blk, off, none⟩ v).setCell ⟨blk, off, none⟩ v' = w.setCell ⟨blk, off, none⟩ v' := by
  rw [Sort.setCell_eq, Sort.setCell_eq, Sort.mapBlock_mapBlock, Sort.setCell_eq]
  congr 1
  funext c
  simp

/-- W has come of w: nothing but that block has been written, and its cell holds some uint64. -/
def XU (w : World) (rb : Nat) (W : World) : Prop := ∃ X : Nat, X < 18446744073709551616 ∧ W.cell? ⟨rb, 0, none⟩ = some (.int .u64 X) ∧ W.frozen? ⟨rb, 0, none⟩ = false ∧ w.grownBy W (some rb)

theorem next_any (rb : Nat) (w v : World) (hX : XU v rb w) :
    Calls Try.prog 57 #[.pointer (some ⟨rb, 0, none⟩)] w fun e w' => ∃ Y : Nat, e = .returned (.int .u64 Y) ∧ Y < 18446744073709551616 ∧ XU v rb w' ∧ w.grownBy w' (some rb) := by
  obtain ⟨X, hX, hc, hf, hg⟩ := hX
  obtain ⟨A, hA⟩ : ∃ A : Nat, A = X ^^^ (X * 8192 % 18446744073709551616) := ⟨_, rfl⟩
  obtain ⟨B, hB⟩ : ∃ B : Nat, B = A ^^^ (A / 128) := ⟨_, rfl⟩
  obtain ⟨C, hC⟩ : ∃ C : Nat, C = B ^^^ (B * 131072 % 18446744073709551616) := ⟨_, rfl⟩
  have lA : A < 18446744073709551616 := by rw [hA]; exact Nat.xor_lt_two_pow (n := 64) (by omega) (by omega)
  have lB : B < 18446744073709551616 := by rw [hB]; exact Nat.xor_lt_two_pow (n := 64) (by omega) (by omega)
  have lC : C < 18446744073709551616 := by rw [hC]; exact Nat.xor_lt_two_pow (n := 64) (by omega) (by omega)
  have e1 : bits .xor .u64 (X : Int) (IntKind.u64.wrap ((X : Int) * 8192)) = (A : Int) := by
    rw [IntKind.wrap_u64, show ((X : Int) * 8192 % 18446744073709551616) = ((X * 8192 % 18446744073709551616 : Nat) : Int) by omega, bits_xor_u64_nat _ _ hX (by omega), hA]
  have e2 : bits .xor .u64 (A : Int) ((A : Int) / 128) = (B : Int) := by
    rw [show ((A : Int) / 128) = ((A / 128 : Nat) : Int) by omega, bits_xor_u64_nat _ _ lA (by omega), hB]
  have e3 : bits .xor .u64 (B : Int) (IntKind.u64.wrap ((B : Int) * 131072)) = (C : Int) := by
    rw [IntKind.wrap_u64, show ((B : Int) * 131072 % 18446744073709551616) = ((B * 131072 % 18446744073709551616 : Nat) : Int) by omega, bits_xor_u64_nat _ _ lB (by omega), hC]
  clear hA hB hC
  have HG := Lib.hid hg
  have HL := Lib.hid lC
  have HF := Lib.hid hf
  have HC := Lib.hid hc
  clear hg
  have hss : ∀ v v', (w.setCell ⟨rb, 0, none⟩ v).setCell ⟨rb, 0, none⟩ v' = w.setCell ⟨rb, 0, none⟩ v' := set_set w rb 0
  go_enter Try.func57, Try.ntmps57
  go_wp2
  go_region
  all_goals go_wp2
  all_goals go_region
  all_goals go_wp2
  all_goals go_region
  all_goals go_wp2
  go_ret
  have hK : (w.setCell ⟨rb, 0, none⟩ (.int .u64 C)).cell? ⟨rb, 0, none⟩ = some (.int .u64 C) := World.cell?_setCell_same _ _ _ hc
  have hg2 : w.grownBy ((w.setCell ⟨rb, 0, none⟩ (.int .u64 C)).drewN 3) (some rb) := grown_drewN (grown_set (World.grownBy.refl _ _) _) 3
  exact ⟨C, rfl, HL.out, ⟨C, HL.out, hK, (World.frozen?_setCell ..).trans hf, grown_trans HG.out hg2⟩, hg2⟩
end Go.Proofs.Ytkkolodolmppnaa.So
