/-
  Contract of number of the document's answer for layer 10: a number's bytes behind others. Memory that was there is left as it was.
-/
import Derived.Test.YtndgbdbjmogioaaWiMem
import Derived.Outline
namespace Go.Proofs.Ytndgbdbjmogioaa.Wi
open Go.RowKit Go.Proofs.Ytndgbdbjmogioaa.Fl
set_option linter.unusedVariables false
set_option linter.unusedSimpArgs false

theorem byC_snoc (l : List UInt8) {n : Nat} (h : n < 256) : byC l ++ [Value.int .u8 (n : Int)] = byC (l ++ [UInt8.ofNat n]) := by
  rw [byC_app]
  simp [byC]
  omega
theorem ob_snoc {W : World} {z : Nat} {v : Value} {l : List UInt8} {n : Nat} {x : Int} (hx : x = (n : Int)) (h : n < 256) (ho : W.ownsRow z 5 1 v (l.length + 1) (byC l ++ [Value.int .u8 x])) : OB W z v (l ++ [UInt8.ofNat n]) := by
  unfold OB
  rw [hx, byC_snoc l h] at ho
  rw [List.length_append]
  exact ho
set_option maxHeartbeats 1000000 in
set_option maxRecDepth 100000 in
theorem numR_any (z : Nat) : ∀ (n : Nat) (hn : n < 18446744073709551616) (v : Value) (l : List UInt8) (w : World) (hz : z ≤ w.heap.size) (hl : l.length + (numL n).length ≤ 1000000) (hO : OB w z v l),
    Calls Try.prog 27 #[v, .int .u64 (n : Nat)] w fun e w' => OutEnd z (l ++ numL n) v w w' e := by
  intro n
  induction n using Nat.strongRecOn with
  | _ n ih =>
    intro hn v l w hz hl hO
    obtain ⟨i0, hi, hz0, hz1, hz2⟩ := info_parts infoB
    have HN := Lib.hid hn
    have IH := Lib.hid ih
    have HL := Lib.hid hl
    have HZ := Lib.hid hz
    clear hn ih hl hz
    by_cases h : n < 128
    · have hlt : (n : Int) < 128 := by omega
      have HS := Lib.hid (numL_small h)
      have HL1 := Lib.hid (show l.length + 1 ≤ 1000000 by have := HL.out; rw [numL_small h] at this; simpa using this)
      obtain ⟨w1, hw1⟩ : ∃ x, x = w.alloc (.cells #[.int .u8 (n : Int)] 5) := ⟨_, rfl⟩
      have HW := Lib.hid hw1
      have O1 := Lib.hid (show OB w1 z v l by rw [hw1]; exact hO.later (below_alloc _ _))
      have N1 := Lib.hid (show ∀ j u, [Value.int .u8 (n : Int)][j]? = some u → w1.cell? ((⟨w.heap.size, 0, none⟩ : Addr).add j) = some u by rw [hw1]; exact new_byte _ _ _)
      have Z1 := Lib.hid (show z ≤ w1.heap.size by rw [hw1]; have := HZ.out; simp; omega)
      have S1 := Lib.hid (show Step w w1 none v v by rw [hw1]; exact (Step.refl _ _ _).alloc _)
      have HB := Lib.hid (show n < 256 by omega)
      clear h hw1 hO
      go_enter Try.func27, Try.ntmps27
      go_wp2_with (at_builtin; rw [← HW.out]; refine wpList_append_own_at _ rfl _ _ 34 rfl z 5 i0 (.int .u8 0) 1 1 Try.underlying34 hi hz0 hz1 hz2 rfl (by decide) _ _ _ rfl O1.out ⟨w.heap.size, 0, none⟩ 1 1 [.int .u8 (n : Int)] rfl rfl N1.out (one_byte _) (by have := HL1.out; unfold maxLen; omega) (by have := HL1.out; omega) Z1.out ?_; intro v' w3 hrow3 hg3 hn3 hat3)
      go_ret
      rw [HS.out]
      exact ⟨v', rfl, ob_snoc rfl HB.out hrow3, S1.out.grown hg3 (atN hat3)⟩
    · have hlt : ¬ (n : Int) < 128 := by omega
      have HS := Lib.hid (numL_large h)
      have HL1 := Lib.hid (show l.length + 1 + (numL (n / 128)).length ≤ 1000000 by have := HL.out; rw [numL_large h, List.length_cons] at this; omega)
      have HX := Lib.hid (show (n : Int) % 128 + 128 = ((n % 128 + 128 : Nat) : Int) by omega)
      have HQ := Lib.hid (wrapU (show (n : Int) / 128 = ((n / 128 : Nat) : Int) by omega) (show n / 128 < 18446744073709551616 by have := HN.out; omega))
      obtain ⟨w1, hw1⟩ : ∃ x, x = w.alloc (.cells #[.int .u8 ((n : Int) % 128 + 128)] 5) := ⟨_, rfl⟩
      have HW := Lib.hid hw1
      have O1 := Lib.hid (show OB w1 z v l by rw [hw1]; exact hO.later (below_alloc _ _))
      have N1 := Lib.hid (show ∀ j u, [Value.int .u8 ((n : Int) % 128 + 128)][j]? = some u → w1.cell? ((⟨w.heap.size, 0, none⟩ : Addr).add j) = some u by rw [hw1]; exact new_byte _ _ _)
      have Z1 := Lib.hid (show z ≤ w1.heap.size by rw [hw1]; have := HZ.out; simp; omega)
      have S1 := Lib.hid (show Step w w1 none v v by rw [hw1]; exact (Step.refl _ _ _).alloc _)
      have HB := Lib.hid (show n % 128 + 128 < 256 by omega)
      have HD := Lib.hid (show n / 128 < n by omega)
      have HU := Lib.hid (show n / 128 < 18446744073709551616 by have := HN.out; omega)
      clear h hw1 hO
      go_enter Try.func27, Try.ntmps27
      go_wp2_with (at_builtin; rw [← HW.out]; refine wpList_append_own_at _ rfl _ _ 34 rfl z 5 i0 (.int .u8 0) 1 1 Try.underlying34 hi hz0 hz1 hz2 rfl (by decide) _ _ _ rfl O1.out ⟨w.heap.size, 0, none⟩ 1 1 [.int .u8 ((n : Int) % 128 + 128)] rfl rfl N1.out (one_byte _) (by have := HL1.out; unfold maxLen; omega) (by have := HL1.out; omega) Z1.out ?_; intro v' w3 hrow3 hg3 hn3 hat3)
      have O3 := Lib.hid (ob_snoc HX.out HB.out hrow3)
      have S3 := Lib.hid (S1.out.grown hg3 (atN hat3))
      rw [HQ.out]
      refine (IH.out _ HD.out HU.out v' _ w3 (Nat.le_trans HZ.out S3.out.size) (by have := HL1.out; rw [List.length_append]; exact this) O3.out).mono ?_
      rintro e w4 ⟨v4, rfl, ho4, hs4⟩
      go_wp2_with fail
      go_ret
      refine ⟨v4, rfl, ?_, S3.out.trans hs4⟩
      rw [HS.out]
      rw [List.append_assoc] at ho4
      exact ho4
end Go.Proofs.Ytndgbdbjmogioaa.Wi
