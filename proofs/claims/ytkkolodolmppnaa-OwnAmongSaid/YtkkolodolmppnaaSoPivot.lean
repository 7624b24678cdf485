/-
  Contract of slices.choosePivotOrdered at uint64: a place from a on, below b, and a hint; memory that was there is left as it was.
-/
import Derived.Test.YtkkolodolmppnaaSoPick
namespace Go.Proofs.Ytkkolodolmppnaa.So
open Go.RowKit
set_option linter.unusedVariables false

theorem CU.again {w W : World} {sb s : Nat} (h : CU w sb s W) : CU W sb s W := ⟨h.1, h.2.1, World.grownBy.refl _ _⟩

set_option maxHeartbeats 1000000 in
theorem pivot_any (blk off cap a b : Nat) (d : Array Int) (w : World) (hH : HU w blk off d) (hblk : blk < w.heap.size) (h12 : 12 < b - a) (hb : b ≤ d.size) (hsz : d.size < 1152921504606846976) :
    Calls Try.prog 47 #[.slice (some ⟨blk, off, none⟩) d.size cap, .int .i64 a, .int .i64 b] w fun e w' =>
      ∃ p h : Nat, e = .returned (.tuple #[.int .i64 p, .int .i64 h]) ∧ a ≤ p ∧ p < b ∧ h ≤ 2 ∧ Below w.heap.size w w' := by
  obtain ⟨L, hL⟩ : ∃ L, L = b - a := ⟨_, rfl⟩
  obtain ⟨I, hI⟩ : ∃ I, I = a + L / 4 := ⟨_, rfl⟩
  obtain ⟨J, hJ⟩ : ∃ J, J = a + L / 4 * 2 := ⟨_, rfl⟩
  obtain ⟨K, hK⟩ : ∃ K, K = a + L / 4 * 3 := ⟨_, rfl⟩
  have hsub : (b : Int) - (a : Int) = (L : Int) := by omega
  have e1 : (a : Int) + (L : Int) / 4 = (I : Int) := by omega
  have e2 : (a : Int) + (L : Int) / 4 * 2 = (J : Int) := by omega
  have e3 : (a : Int) + (L : Int) / 4 * 3 = (K : Int) := by omega
  have hL12 : 12 < L := by omega
  have hne : w.heap.size ≠ blk := by omega
  have H1 := ((SU.start hH).alloc hblk (.cells #[.int .i64 0] 3)).1
  have hb1 : blk < (w.alloc (.cells #[.int .i64 0] 3)).heap.size := by simp; omega
  have hC0 := cu_start w
  have hsz2 : d.size < 2305843009213693952 := by omega
  by_cases h50 : 50 ≤ L
  · have k1 : a + 12 ≤ I := by omega
    have k2 : I + 12 ≤ b := by omega
    have k3 : a + 12 ≤ J := by omega
    have k4 : J + 12 ≤ b := by omega
    have k5 : a + 12 ≤ K := by omega
    have k6 : K + 12 ≤ b := by omega
    clear hL hI hJ hK hH
    have h50z : (50 : Int) ≤ (L : Int) := by omega
    go_enter Try.func47, Try.ntmps47
    go_wp2_with fail
    refine (adj_any blk off cap I w.heap.size 0 d _ H1 hb1 hne (by omega) (by omega) hC0 (by omega) hsz2).mono ?_
    rintro e w2 ⟨p1, t1, rfl, hp1, hq1, ht1, hC1⟩
    have H2 := hC1.row H1 hb1 hne
    have hb2 := Nat.lt_of_lt_of_le hb1 hC1.2.2.size
    go_wp2_with fail
    refine (adj_any blk off cap J w.heap.size t1 d w2 H2 hb2 hne (by omega) (by omega) hC1.again (by omega) hsz2).mono ?_
    rintro e w3 ⟨p2, t2, rfl, hp2, hq2, ht2, hC2⟩
    have H3 := hC2.row H2 hb2 hne
    have hb3 := Nat.lt_of_lt_of_le hb2 hC2.2.2.size
    go_wp2_with fail
    refine (adj_any blk off cap K w.heap.size t2 d w3 H3 hb3 hne (by omega) (by omega) hC2.again (by omega) hsz2).mono ?_
    rintro e w4 ⟨p3, t3, rfl, hp3, hq3, ht3, hC3⟩
    have H4 := hC3.row H3 hb3 hne
    have hb4 := Nat.lt_of_lt_of_le hb3 hC3.2.2.size
    go_wp2_with fail
    refine (median_any blk off cap p1 p2 p3 w.heap.size t3 d w4 H4 hb4 hne (by omega) (by omega) (by omega) hC3.again (by omega) hsz2).mono ?_
    rintro e w5 ⟨p, t, rfl, hp, ht, hC4⟩
    have hc := hC4.1
    have HB := Lib.hid (cu_below (((hC0.trans hC1).trans hC2).trans (hC3.trans hC4)))
    have hpa : a ≤ p := by omega
    have hpb : p < b := by omega
    clear hC0 hC1 hC2 hC3 hC4 H1 H2 H3 H4 hb1 hb2 hb3 hb4 hp hp1 hq1 hp2 hq2 hp3 hq3
    go_wp2_with fail
    all_goals (go_ret2; first | exact ⟨p, 1, rfl, hpa, hpb, by omega, HB.out⟩ | exact ⟨p, 2, rfl, hpa, hpb, by omega, HB.out⟩ | exact ⟨p, 0, rfl, hpa, hpb, by omega, HB.out⟩)
  · have k1 : a ≤ I := by omega
    have k2 : I < b := by omega
    have k3 : a ≤ J := by omega
    have k4 : J < b := by omega
    have k5 : a ≤ K := by omega
    have k6 : K < b := by omega
    clear hL hI hJ hK hH
    have h50z : ¬ (50 : Int) ≤ (L : Int) := by omega
    go_enter Try.func47, Try.ntmps47
    go_wp2_with fail
    refine (median_any blk off cap I J K w.heap.size 0 d _ H1 hb1 hne (by omega) (by omega) (by omega) hC0 (by omega) hsz2).mono ?_
    rintro e w5 ⟨p, t, rfl, hp, ht, hC4⟩
    have hc := hC4.1
    have HB := Lib.hid (cu_below (hC0.trans hC4))
    have hpa : a ≤ p := by omega
    have hpb : p < b := by omega
    clear hC0 hC4 H1 hb1 hp
    go_wp2_with fail
    all_goals (go_ret2; first | exact ⟨p, 1, rfl, hpa, hpb, by omega, HB.out⟩ | exact ⟨p, 2, rfl, hpa, hpb, by omega, HB.out⟩ | exact ⟨p, 0, rfl, hpa, hpb, by omega, HB.out⟩)
end Go.Proofs.Ytkkolodolmppnaa.So
