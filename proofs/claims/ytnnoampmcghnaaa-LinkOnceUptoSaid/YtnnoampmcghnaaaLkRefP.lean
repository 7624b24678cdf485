/-
  Contract of the statements' packets: the packets are the document's. Memory is left as it was.
-/
import Derived.Test.YtnnoampmcghnaaaLkRef
import Derived.BigQuiet
namespace Go.Proofs.Ytnnoampmcghnaaa.Lk
open Go.RowKit Go.Proofs.Ytnnoampmcghnaaa.Fl Go.Proofs.Ytnnoampmcghnaaa.Wi Go.Proofs.Ytnnoampmcghnaaa.Fr
set_option linter.unusedVariables false
set_option linter.unusedSimpArgs false
set_option maxHeartbeats 4000000
set_option maxRecDepth 100000
def RpR (n : Nat) (w : World) (v9 : Value) (wr : World) : Prop := ∃ i : Nat, v9 = .int .i64 (i : Int) ∧ i ≤ n ∧ Hid (Below w.heap.size w wr)
theorem rpk_any {S T U : Nat → Prop} {p win : Nat} {a b : Option Addr} {n c m d : Nat} {rcs lcs : List Value} {all : List (List UInt8)} {ack told : Nat} (f t : Nat) (w : World)
    (hA : CeAt w S a rcs) (hP : PkV w T rcs (pkts all f t)) (hn : n = t - f) (h : Rf w p win (.slice b m d) ack told) (hB : CellsAt w U b lcs) (hL : FsV w U lcs all) (hm : m = lcs.length) (hft : f ≤ t) (ht : t ≤ all.length) (hl : all.length ≤ 100000)
    (hS : ∀ g, S g → g < w.heap.size) (hT : ∀ g, T g → g < w.heap.size) (hU : ∀ g, U g → g < w.heap.size) :
    Calls Try.prog 13 #[.slice a n c, .pointer (some ⟨p, 0, none⟩), .int .i64 (f : Int), .int .i64 (t : Int)] w fun e w' => e = .returned (.bool true) ∧ Below w.heap.size w w' := by
  have hp := h.lt
  obtain ⟨-, c1, -, -⟩ := h.cells
  have hz1 : ¬ (t : Int) < (f : Int) := by omega
  have hz2 : IntKind.i64.wrap ((t : Int) - (f : Int)) = (n : Int) := by rw [IntWalk.i64_in _ (by omega)]; omega
  have hlm : m = all.length := by rw [hm, hL.1]
  have HD : Hid (∀ i, i < n → ∃ g o g2 o2 a1 k1 a2 k2, a = some ⟨g, o, none⟩ ∧ g < w.heap.size ∧ b = some ⟨g2, o2, none⟩ ∧ g2 < w.heap.size ∧ w.cell? ⟨g, o + i * 2, none⟩ = some (.int .u64 ((f + i : Nat) : Int)) ∧ w.cell? ⟨g, o + i * 2 + 1, none⟩ = some (.slice a1 (all.getD (f + i) []).length k1) ∧ BytesAt w T a1 (all.getD (f + i) []) ∧ w.cell? ⟨g2, o2 + (f + i), none⟩ = some (.slice a2 (all.getD (f + i) []).length k2) ∧ BytesAt w U a2 (all.getD (f + i) [])) := by
    intro i hi
    have hpl : i < (pkts all f t).length := by rw [pkts_length]; omega
    obtain ⟨a1, k1, e1, e2, _, e3⟩ := hP.2 i hpl
    rw [pkts_get] at e1 e2 e3
    obtain ⟨g, o, ha, hg, hc⟩ := hA (by rw [hP.1]; omega)
    obtain ⟨g2, o2, hb, hg2, hc2⟩ := hB.2 (by rw [hL.1]; omega)
    obtain ⟨a2, k2, e4, _, e5⟩ := hL.2 (f + i) (by omega)
    have e6 : all[f + i]'(by omega) = all.getD (f + i) [] := by rw [List.getD_eq_getElem?_getD, List.getElem?_eq_getElem (by omega)]; rfl
    rw [e6] at e4 e5
    refine ⟨g, o, g2, o2, a1, k1, a2, k2, ha, hS g hg, hb, hU g2 hg2, hc _ _ e1, ?_, e3, hc2 _ _ e4, e5⟩
    rw [Nat.add_assoc]
    exact hc _ _ e2
  have HT := Lib.hid hT
  have HU := Lib.hid hU
  have hn9 : n ≤ 100000 := by omega
  have HFN := Lib.hid (show f + n ≤ m ∧ m ≤ 100000 by omega)
  clear hA hP hn h hB hL hm hft ht hl hS hT hU hlm
  go_enter Try.func13, Try.ntmps13
  go_wp2_with fail
  go_loopw [9] (fun v9 wr => RpR n w v9 wr) (fun v9 _ => n - (intOf v9).toNat)
  case atStart => exact ⟨0, rfl, Nat.zero_le _, Lib.hid (Below.refl _ _)⟩
  case round =>
    obtain ⟨i, rfl, hin, HW⟩ := hrel
    by_cases hlt : i < n
    · have hlz : (i : Int) < (n : Int) := by omega
      obtain ⟨g, o, g2, o2, a1, k1, a2, k2, rfl, hg, rfl, hg2, e1, e2, e3, e4, e5⟩ := HD.out i hlt
      have d1 : wr.cell? ⟨g, o + i * 2, none⟩ = some (.int .u64 ((f + i : Nat) : Int)) := (HW.out.cell (p := ⟨g, o + i * 2, none⟩) hg).trans e1
      have d2 : wr.cell? ⟨g, o + i * 2 + 1, none⟩ = some (.slice a1 (all.getD (f + i) []).length k1) := (HW.out.cell (p := ⟨g, o + i * 2 + 1, none⟩) hg).trans e2
      have d3 : wr.cell? ⟨p, 1, none⟩ = some (.slice (some ⟨g2, o2, none⟩) m d) := (HW.out.cell (p := ⟨p, 1, none⟩) hp).trans c1
      have d4 : wr.cell? ⟨g2, o2 + (f + i), none⟩ = some (.slice a2 (all.getD (f + i) []).length k2) := (HW.out.cell (p := ⟨g2, o2 + (f + i), none⟩) hg2).trans e4
      have t1 := fun N => run_text a1 k1 (all.getD (f + i) []) (wr.drewN N) (show BytesAt (wr.drewN N) T a1 (all.getD (f + i) []) from e3.far fun g hg => ⟨hg, HW.out.block g (HT.out g hg)⟩)
      have t2 := fun N => run_text a2 k2 (all.getD (f + i) []) (wr.drewN N) (show BytesAt (wr.drewN N) U a2 (all.getD (f + i) []) from e5.far fun g hg => ⟨hg, HW.out.block g (HU.out g hg)⟩)
      have hfi := HFN.out
      have u1 : IntKind.i64.wrap ((f : Int) + (i : Int)) = ((f + i : Nat) : Int) := by rw [IntWalk.i64_in _ (by omega)]; omega
      have u2 : IntKind.u64.wrap ((f + i : Nat) : Int) = ((f + i : Nat) : Int) := wrapU rfl (by omega)
      obtain ⟨x, hx⟩ : ∃ x, x = all.getD (f + i) [] := ⟨_, rfl⟩
      rw [← hx] at d2 d4 t1 t2
      obtain ⟨q, hq⟩ : ∃ q, q = x.length := ⟨_, rfl⟩
      rw [← hq] at d2 d4 t1 t2
      obtain ⟨z, hz⟩ : ∃ z, z = f + i := ⟨_, rfl⟩
      rw [← hz] at d1 d4 u1 u2
      have hzm : z < m := by omega
      have hne : ((z : Int) != (z : Int)) = false := by simp
      clear hx hq hz e1 e2 e3 e4 e5 hfi
      go_wp2_with fail
      go_quiet (fail)
      go_wp2_with fail
      go_roundw
      case rel => exact ⟨i + 1, by go_num, by omega, Lib.hid ⟨HW.out.os, HW.out.tape, HW.out.output, HW.out.size, HW.out.block⟩⟩
      case measure => simp [intOf]; omega
    · have hlz : ¬ (i : Int) < (n : Int) := by omega
      go_wp2_with fail
      go_ret
      exact ⟨rfl, HW.out⟩
end Go.Proofs.Ytnnoampmcghnaaa.Lk
