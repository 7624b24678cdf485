/-
  Contract of slices.breakPatternsOrdered at uint64: what lay from a on, below b, is permuted; nothing else is written.
-/
import Derived.Test.YtkkolodolmppnaaSoNext
import Derived.BigRegion
namespace Go.Proofs.Ytkkolodolmppnaa.So
open Go.RowKit
set_option linter.unusedVariables false

/-- W has come of w: the row's block has been written, and a new block that holds a number. -/
def BU (w : World) (blk off : Nat) (d : Array Int) (W : World) : Prop := SU w blk off d W ∧ w.heap.size < W.heap.size ∧ ∃ X : Nat, X < 18446744073709551616 ∧ W.cell? ⟨w.heap.size, 0, none⟩ = some (.int .u64 X) ∧ W.frozen? ⟨w.heap.size, 0, none⟩ = false
theorem BU.start {w : World} {blk off : Nat} {d : Array Int} (h : HU w blk off d) (hb : blk < w.heap.size) (X : Nat) (hX : X < 18446744073709551616) (T : TypeId) : BU w blk off d (w.alloc (.cells #[.int .u64 X] T)) :=
  ⟨(SU.start h).alloc hb _, by simp, X, hX, by simp, by simp⟩
theorem BU.next {w W V : World} {blk off : Nat} {d : Array Int} (h : BU w blk off d W) (hb : blk < w.heap.size) (hX : XU W w.heap.size V) : BU w blk off d V := by
  obtain ⟨X, hX, hc, hf, hg⟩ := hX
  exact ⟨h.1.other (Nat.lt_trans hb h.2.1) (Nat.le_refl _) (by omega) hg, Nat.lt_of_lt_of_le h.2.1 hg.size, X, hX, hc, hf⟩
theorem BU.xu {w W : World} {blk off : Nat} {d : Array Int} (h : BU w blk off d W) : XU W w.heap.size W := by
  obtain ⟨_, _, X, hX, hc, hf⟩ := h
  exact ⟨X, hX, hc, hf, World.grownBy.refl _ _⟩
theorem BU.swapped {w W : World} {blk off : Nat} {d : Array Int} (h : BU w blk off d W) (hb : blk < w.heap.size) (i j : Nat) (hi : i < d.size) (hj : j < d.size) :
    BU w blk off (Sort.swp d i j) ((W.setCell ⟨blk, off + i, none⟩ (.int .u64 d[j]!)).setCell ⟨blk, off + j, none⟩ (.int .u64 d[i]!)).drew := by
  obtain ⟨hS, hz, X, hX, hc, hf⟩ := h
  have ha : ∀ k, (⟨blk, off + k, none⟩ : Addr) ≠ ⟨w.heap.size, 0, none⟩ := fun k e => by simp only [Addr.mk.injEq] at e; omega
  refine ⟨hS.swapped i j hi hj, by simpa using hz, X, hX, ?_, ?_⟩
  · show World.cell? _ _ = _
    exact (World.cell?_setCell_other _ _ _ _ (ha j)).trans ((World.cell?_setCell_other _ _ _ _ (ha i)).trans hc)
  · exact (World.frozen?_setCell ..).trans ((World.frozen?_setCell ..).trans hf)

def BrR (w : World) (blk off a b I0 : Nat) (d : Array Int) (vi : Value) (wr : World) : Prop :=
  ∃ (i : Nat) (dk : Array Int), vi = .int .i64 i ∧ I0 ≤ i ∧ i ≤ I0 + 3 ∧ Sort.PermIn a b d dk ∧ BU w blk off dk wr
theorem and_ex {Y m : Nat} (hY : Y < 18446744073709551616) (h0 : 0 < m) (hm : m < 18446744073709551616) : ∃ O : Nat, bits .and .u64 (Y : Int) ((m : Int) - 1) = (O : Int) ∧ O < m := by
  refine ⟨Y &&& (m - 1), ?_, ?_⟩
  · rw [show ((m : Int) - 1) = ((m - 1 : Nat) : Int) by omega, bits_and_u64_nat _ _ hY (by omega)]
  · have : Y &&& (m - 1) ≤ m - 1 := Nat.and_le_right
    omega

set_option maxHeartbeats 1000000 in
theorem break_any (blk off cap a b : Nat) (d : Array Int) (w : World) (hH : HU w blk off d) (hblk : blk < w.heap.size) (h12 : 12 < b - a) (hb : b ≤ d.size) (hsz : d.size < 1152921504606846976) :
    Calls Try.prog 46 #[.slice (some ⟨blk, off, none⟩) d.size cap, .int .i64 a, .int .i64 b] w fun e w' =>
      ∃ d' : Array Int, e = .returned (.tuple #[]) ∧ Sort.PermIn a b d d' ∧ SU w blk off d' w' := by
  obtain ⟨L, hL⟩ : ∃ L, L = b - a := ⟨_, rfl⟩
  obtain ⟨I0, hI⟩ : ∃ I0, I0 = a + L / 4 * 2 - 1 := ⟨_, rfl⟩
  have hsub : (b : Int) - (a : Int) = (L : Int) := by omega
  have e1 : (a : Int) + (L : Int) / 4 * 2 - 1 = (I0 : Int) := by omega
  have e2 : (a : Int) + (L : Int) / 4 * 2 + 1 = (I0 : Int) + 2 := by omega
  have hL12 : 12 < L := by omega
  have hIa : a ≤ I0 := by omega
  have hIb : I0 + 3 ≤ b := by omega
  have hLs : L ≤ d.size := by omega
  have haL : a + L ≤ d.size := by omega
  have hLb : a + L = b := by omega
  have HS := Lib.hid (BU.start (T := 87) hH hblk L (by omega))
  have HLB := Lib.hid hLb
  clear hL hI hH hLb
  go_enter Try.func46, Try.ntmps46
  go_wp2_with fail
  refine (pow_any L _ (by omega) (by omega)).mono ?_
  rintro e w1 ⟨m, rfl, hm0, hm2, rfl⟩
  go_wp2_with fail
  go_loopw [9] (fun vi wr => BrR w blk off a b I0 d vi wr) (fun vi _ => I0 + 3 - nOf vi)
  case atStart => exact ⟨I0, d, rfl, Nat.le_refl _, by omega, Sort.permIn_refl _ _ _, HS.out⟩
  case round =>
    obtain ⟨i, dk, rfl, hi0, hi3, hP, hB⟩ := hrel
    have HP := Lib.hid hP
    have HB := Lib.hid hB
    have HSK := Lib.hid hP.1
    clear hP hB
    by_cases hlt : i ≤ I0 + 2
    · have hz : (i : Int) ≤ (I0 : Int) + 2 := by omega
      go_wp2_with fail
      refine (next_any w.heap.size wr wr HB.out.xu).mono ?_
      rintro e w1 ⟨Y, rfl, hY, hXU, hgr⟩
      have HB1 := Lib.hid (HB.out.next hblk hXU)
      obtain ⟨O, hO, hOm⟩ := and_ex hY hm0 (by omega)
      obtain ⟨G, hG⟩ : ∃ G : Nat → Int, ∀ t, G t = dk[t]! := ⟨fun t => dk[t]!, fun _ => rfl⟩
      have hcw : ∀ t, t < d.size → w1.cell? ⟨blk, off + t, none⟩ = some (.int .u64 (G t)) := fun t ht => by rw [hG]; exact HB1.out.1.c t (by rw [HSK.out]; exact ht)
      have hfw : ∀ t, t < d.size → w1.frozen? ⟨blk, off + t, none⟩ = false := fun t ht => HB1.out.1.f t (by rw [HSK.out]; exact ht)
      have HG := Lib.hid hG
      clear hXU hgr hG
      have hib : i < d.size := by omega
      go_wp2_with fail
      · have hLO : L ≤ O := by omega
        obtain ⟨j, hj⟩ : ∃ j, j = a + (O - L) := ⟨_, rfl⟩
        have hj1 : (a : Int) + ((O : Int) - (L : Int)) = (j : Int) := by omega
        have hja : a ≤ j := by omega
        have hjb : j < a + L := by omega
        have hjd : j < d.size := by omega
        have HW := HB1.out.swapped hblk i j (by rw [HSK.out]; omega) (by rw [HSK.out]; omega)
        rw [← HG.out, ← HG.out] at HW
        have HQ := Lib.hid (Sort.permIn_trans _ _ _ a b HP.out (Sort.swp_permIn dk a b i j (by omega) (by omega) hja (by rw [← HLB.out]; exact hjb) (by rw [HSK.out]; omega)))
        clear hj
        by_cases hij : i = j
        · subst hij
          have HW := Lib.hid HW
          go_region
          go_wp2
          go_roundw
          case rel => exact ⟨i + 1, _, by simp, by omega, by omega, HQ.out, HW.out⟩
          case measure => simp [nOf]; omega
        · have HW := Lib.hid HW
          go_region
          go_wp2
          go_roundw
          case rel => exact ⟨i + 1, _, by simp, by omega, by omega, HQ.out, HW.out⟩
          case measure => simp [nOf]; omega
      · have hLO : ¬ L ≤ O := by omega
        obtain ⟨j, hj⟩ : ∃ j, j = a + O := ⟨_, rfl⟩
        have hj1 : (a : Int) + (O : Int) = (j : Int) := by omega
        have hja : a ≤ j := by omega
        have hjb : j < a + L := by omega
        have hjd : j < d.size := by omega
        have HW := HB1.out.swapped hblk i j (by rw [HSK.out]; omega) (by rw [HSK.out]; omega)
        rw [← HG.out, ← HG.out] at HW
        have HQ := Lib.hid (Sort.permIn_trans _ _ _ a b HP.out (Sort.swp_permIn dk a b i j (by omega) (by omega) hja (by rw [← HLB.out]; exact hjb) (by rw [HSK.out]; omega)))
        clear hj
        by_cases hij : i = j
        · subst hij
          have HW := Lib.hid HW
          go_region
          go_wp2
          go_roundw
          case rel => exact ⟨i + 1, _, by simp, by omega, by omega, HQ.out, HW.out⟩
          case measure => simp [nOf]; omega
        · have HW := Lib.hid HW
          go_region
          go_wp2
          go_roundw
          case rel => exact ⟨i + 1, _, by simp, by omega, by omega, HQ.out, HW.out⟩
          case measure => simp [nOf]; omega
    · have hz : ¬ (i : Int) ≤ (I0 : Int) + 2 := by omega
      go_wp2
      go_end0
      exact ⟨rfl, dk, HP.out, HB.out.1⟩
end Go.Proofs.Ytkkolodolmppnaa.So
