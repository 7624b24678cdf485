/-
  Contract of whole of the statements: are two rows of frames the same? Memory is left as it was.
-/
import Derived.Test.YthoajnpdnagdbaaFrMem
namespace Go.Proofs.Ythoajnpdnagdbaa.Fr
open Go.RowKit Go.Proofs.Ythoajnpdnagdbaa.Fl Go.Proofs.Ythoajnpdnagdbaa.Wi
set_option linter.unusedVariables false
set_option linter.unusedSimpArgs false

set_option maxHeartbeats 2000000
set_option maxRecDepth 100000
def WhR (n : Nat) (l m : List (List UInt8)) (w : World) (v5 : Value) (wr : World) : Prop :=
  ∃ k : Nat, v5 = .int .i64 (k : Nat) ∧ k ≤ n ∧ Hid (l.take k = m.take k) ∧ Hid (Below w.heap.size w wr)
theorem whole_any (a : Option Addr) (c : Nat) (cs : List Value) (l : List (List UInt8)) (b : Option Addr) (d : Nat) (ds : List Value) (m : List (List UInt8)) (w : World) (hA : CellsAt w (Old w.heap.size) a cs) (hL : FsV w (Old w.heap.size) cs l) (hB : CellsAt w (Old w.heap.size) b ds) (hM : FsV w (Old w.heap.size) ds m) :
    Calls Try.prog 9 #[.slice a cs.length c, .slice b ds.length d] w fun e w' => e = .returned (.bool (decide (l = m))) ∧ Below w.heap.size w w' := by
  obtain ⟨res, hres⟩ : ∃ r, r = decide (l = m) := ⟨_, rfl⟩
  have h63 : cs.length ≤ 9223372036854775807 := by have := hA.1; unfold maxLen at this; omega
  have h63b : ds.length ≤ 9223372036854775807 := by have := hB.1; unfold maxLen at this; omega
  rw [← hres]
  have HRES := Lib.hid hres
  have HLL := Lib.hid hL.1
  have HLM := Lib.hid hM.1
  obtain ⟨n, hn⟩ : ∃ n, n = cs.length := ⟨_, rfl⟩
  obtain ⟨n2, hn2⟩ : ∃ n, n = ds.length := ⟨_, rfl⟩
  have HN := Lib.hid hn
  have HN2 := Lib.hid hn2
  rw [← hn] at h63 ⊢
  rw [← hn2] at h63b ⊢
  by_cases hne : n = n2
  · subst hne
    have HA := Lib.hid hA
    have HB := Lib.hid hB
    have HL := Lib.hid hL
    have HM := Lib.hid hM
    clear hA hB hL hM hres hn hn2
    go_enter Try.func9, Try.ntmps9
    go_wp2_with fail
    go_loopw [5] (fun v5 wr => WhR n l m w v5 wr) (fun v5 _ => n - (intOf v5).toNat)
    case atStart => exact ⟨0, rfl, Nat.zero_le _, Lib.hid (by simp), Lib.hid (Below.refl _ _)⟩
    case round =>
      obtain ⟨k, rfl, hkn, HK, HW⟩ := hrel
      by_cases hlt : k < n
      · have hlz : (k : Int) < (n : Int) := by omega
        have hkl : k < l.length := by rw [← HLL.out, ← HN.out]; exact hlt
        have hkm : k < m.length := by rw [← HLM.out, ← HN2.out]; exact hlt
        obtain ⟨g, o, rfl, hg, hc⟩ := HA.out.2 (by rw [← HN.out]; omega)
        obtain ⟨g2, o2, rfl, hg2, hc2⟩ := HB.out.2 (by rw [← HN2.out]; omega)
        obtain ⟨a1, c1, e1, hc1, hb1⟩ := HL.out.2 k hkl
        obtain ⟨a2, c2, e2, hc2', hb2⟩ := HM.out.2 k hkm
        have d1 := (World.cell?_of_block (w := w) (w' := wr) (a := ⟨g, o + k, none⟩) (HW.out.block g hg)).trans (hc k _ e1)
        have d2 := (World.cell?_of_block (w := w) (w' := wr) (a := ⟨g2, o2 + k, none⟩) (HW.out.block g2 hg2)).trans (hc2 k _ e2)
        have t1 := run_text a1 c1 l[k] wr.drew ((hb1.later HW.out).far fun g hg => ⟨hg, rfl⟩)
        have t2 := run_text a2 c2 m[k] wr.drew ((hb2.later HW.out).far fun g hg => ⟨hg, rfl⟩)
        obtain ⟨x, hx⟩ : ∃ x, x = l[k] := ⟨_, rfl⟩
        obtain ⟨y, hy⟩ : ∃ y, y = m[k] := ⟨_, rfl⟩
        rw [← hx] at d1 t1
        rw [← hy] at d2 t2
        obtain ⟨p1, hp1⟩ : ∃ p, p = x.length := ⟨_, rfl⟩
        obtain ⟨p2, hp2⟩ : ∃ p, p = y.length := ⟨_, rfl⟩
        rw [← hp1] at d1 t1
        rw [← hp2] at d2 t2
        have HTL := Lib.hid (show l.take (k + 1) = l.take k ++ [x] by rw [hx]; exact (List.take_append_getElem hkl).symm)
        have HTM := Lib.hid (show m.take (k + 1) = m.take k ++ [y] by rw [hy]; exact (List.take_append_getElem hkm).symm)
        have HNE := Lib.hid (show x ≠ y → res = false by rw [hx, hy, HRES.out]; intro h; rw [decide_eq_false_iff_not]; intro e; subst e; exact h rfl)
        clear hc hc2 hb1 hb2 e1 e2 hx hy hp1 hp2
        by_cases hxy : x = y
        · have hb : (x == y) = true := by rw [beq_iff_eq]; exact hxy
          have HXY := Lib.hid hxy
          clear hxy
          go_wp2_with fail
          go_region
          all_goals
            go_wp2_with fail
            go_roundw
            case rel => exact ⟨k + 1, by go_num, by omega, Lib.hid (by rw [HTL.out, HTM.out, HK.out, HXY.out]), Lib.hid HW.out.drew⟩
            case measure => simp [intOf]; omega
        · have hb : (x == y) = false := by rw [beq_eq_false_iff_ne]; exact hxy
          have HXY := Lib.hid hxy
          clear hxy
          go_wp2_with fail
          go_region
          all_goals
            go_wp2_with fail
            go_ret
            exact ⟨by rw [HNE.out HXY.out]; rfl, HW.out.drew⟩
      · have hlz : ¬ (k : Int) < (n : Int) := by omega
        have hk : k = n := by omega
        have HF := Lib.hid (show res = true by
          rw [HRES.out, decide_eq_true_eq]
          have h := HK.out
          rw [hk, List.take_of_length_le (by rw [← HLL.out, ← HN.out]; exact Nat.le_refl _), List.take_of_length_le (by rw [← HLM.out, ← HN2.out]; exact Nat.le_refl _)] at h
          exact h)
        clear hk
        go_wp2_with fail
        go_ret
        exact ⟨by rw [HF.out]; rfl, HW.out⟩
  · have HF := Lib.hid (show res = false by rw [hres, decide_eq_false_iff_not]; intro e; subst e; exact hne (by rw [hn, hn2, hL.1, hM.1]))
    have hnz : ((n : Int) != (n2 : Int)) = true := by rw [bne_iff_ne]; omega
    have hnz2 : ¬ (n : Int) = (n2 : Int) := by omega
    clear hA hB hL hM hres hn hn2
    go_enter Try.func9, Try.ntmps9
    go_wp2_with fail
    go_ret
    exact ⟨by rw [HF.out]; rfl, Below.refl _ _⟩
end Go.Proofs.Ythoajnpdnagdbaa.Fr
