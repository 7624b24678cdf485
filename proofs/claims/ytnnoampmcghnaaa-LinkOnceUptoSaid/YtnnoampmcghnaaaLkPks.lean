/-
  Contract of package link's packets: those of some of the queue, in new memory. Memory that was there is left as it was.
-/
import Derived.Test.YtnnoampmcghnaaaLkClone
import Derived.Deep.RegionLaw
import Derived.IntWalk
namespace Go.Proofs.Ytnnoampmcghnaaa.Lk
open Go.RowKit Go.Proofs.Ytnnoampmcghnaaa.Fl Go.Proofs.Ytnnoampmcghnaaa.Wi Go.Proofs.Ytnnoampmcghnaaa.Fr
set_option linter.unusedVariables false
set_option linter.unusedSimpArgs false
set_option maxHeartbeats 4000000
set_option maxRecDepth 100000
/-- The packets of numbers a up to b. -/
def pkts (all : List (List UInt8)) (a b : Nat) : List Pk := (List.range (b - a)).map fun i => (a + i, all.getD (a + i) [])
theorem pkts_length (all : List (List UInt8)) (a b : Nat) : (pkts all a b).length = b - a := by simp [pkts]
theorem pkts_nil (all : List (List UInt8)) (a : Nat) : pkts all a a = [] := by simp [pkts]
theorem pkts_get (all : List (List UInt8)) (a b k : Nat) (h : k < (pkts all a b).length) : (pkts all a b)[k] = (a + k, all.getD (a + k) []) := by simp [pkts]
theorem pkts_succ (all : List (List UInt8)) {a b : Nat} (h : a ≤ b) : pkts all a (b + 1) = pkts all a b ++ [(b, all.getD b [])] := by
  unfold pkts
  rw [show b + 1 - a = (b - a) + 1 by omega, List.range_succ, List.map_append]
  simp only [List.map_cons, List.map_nil]
  rw [show a + (b - a) = b by omega]
/-- All blocks from the elder world's end on. -/
def Nd (w w' : World) (g : Nat) : Prop := w.heap.size ≤ g ∧ g < w'.heap.size
/-- At the head of a round: those up to i lie in the row. -/
def PkR (w : World) (all : List (List UInt8)) (ack f t : Nat) (vr vi : Value) (wr : World) : Prop :=
  ∃ (i : Nat) (rcs : List Value), vi = .int .i64 (i : Int) ∧ f ≤ i ∧ i ≤ t ∧ OP wr w.heap.size vr (i - f) rcs ∧ PkV wr (Nw w wr vr) rcs (pkts all (ack + f) (ack + i)) ∧ Below w.heap.size w wr
/-- A round's end. -/
theorem PkR.step {w wr w1 w3 : World} {all : List (List UInt8)} {ack f i : Nat} {vr v' : Value} {rcs : List Value} {a' : Option Addr} {m c' : Nat} (hf : f ≤ i) (hO : OP wr w.heap.size vr (i - f) rcs) (hP : PkV wr (Nw w wr vr) rcs (pkts all (ack + f) (ack + i))) (hB : Below w.heap.size w wr)
    (hb : Below wr.heap.size wr w1) (hA : BytesAt w1 (fun g => wr.heap.size ≤ g ∧ g < w1.heap.size) a' (all.getD (ack + i) [])) (hm : m = (all.getD (ack + i) []).length) (hc : m ≤ c') {o : Obj} (hR : OP w3 w.heap.size v' (i - f + 1) (rcs ++ [.int .u64 ((ack + i : Nat) : Int), .slice a' m c'])) (hG : (w1.alloc o).grownBy w3 vr.ownBlock) (hat : v'.ownBlock = vr.ownBlock ∨ v'.ownBlock = some (w1.alloc o).heap.size) :
    PkV w3 (Nw w w3 v') (rcs ++ [.int .u64 ((ack + i : Nat) : Int), .slice a' m c']) (pkts all (ack + f) (ack + (i + 1))) ∧ Below w.heap.size w w3 := by
  have hz1 : wr.heap.size ≤ w1.heap.size := hb.size
  have hz2 : (w1.alloc o).heap.size = w1.heap.size + 1 := by simp
  have hz3 : w1.heap.size < w3.heap.size := by have := hG.size; omega
  have hz0 := hB.size
  have hold : ∀ g, g < w1.heap.size → some g ≠ vr.ownBlock → w3.heap[g]? = w1.heap[g]? := fun g h1 h2 => by rw [hG.block g (by omega) h2, Below.heap_alloc _ _ _ h1]
  have hvv : ∀ g, g < w1.heap.size → some g ≠ vr.ownBlock → some g ≠ v'.ownBlock := fun g h1 h2 => by
    rcases hat with e | e
    · rw [e]; exact h2
    · rw [e]; intro e2; cases e2; omega
  rw [show ack + (i + 1) = ack + i + 1 by omega, pkts_succ all (by omega)]
  refine ⟨PkV.app (hP.far fun g hg => ?_) (PkV.one hm hc (hA.far fun g hg => ?_)), ?_⟩
  · obtain ⟨h1, h2, h3⟩ := hg
    exact ⟨⟨h1, by omega, hvv g (by omega) h3⟩, by rw [hold g (by omega) h3, hb.block g h2]⟩
  · have h3 : some g ≠ vr.ownBlock := fun e => by have := hO.lt e.symm; omega
    exact ⟨⟨by omega, by omega, hvv g hg.2 h3⟩, hold g hg.2 h3⟩
  · exact below_grown ((hB.trans (hb.mono hz0)).alloc (by omega) o) (by omega) hG (fun k hk => (hO.lt hk).1)
theorem pks_any {S : Nat → Prop} {p win : Nat} {v : Value} {cs : List Value} {all : List (List UInt8)} {ack told : Nat} (f t : Nat) (w : World) (h : Sn w S p win v cs all ack told) (hft : f ≤ t) (ht : t ≤ all.length - ack) (hl : ∀ x ∈ all, x.length ≤ 100000000) :
    Calls Try.prog 21 #[.pointer (some ⟨p, 0, none⟩), .int .i64 (f : Int), .int .i64 (t : Int)] w fun e w' => ∃ a n c, e = .returned (.slice a n c) ∧ n = t - f ∧ n ≤ c ∧ ∃ rcs, CeAt w' (Nd w w') a rcs ∧ PkV w' (Nd w w') rcs (pkts all (ack + f) (ack + t)) ∧ Below w.heap.size w w' := by
  have hln := h.hln
  obtain ⟨-, c1, c2, -⟩ := h.cells
  obtain ⟨ga, gn, gk, rfl⟩ := own_slice h.row
  obtain ⟨hgn, hgc⟩ := h.row.cells
  have hgl : gn = all.length - ack := by rw [hgn, h.len]
  have HD : Hid (∀ i, i < all.length - ack → ∃ go oo a c, ga = some ⟨go, oo, none⟩ ∧ go < w.heap.size ∧ w.cell? ⟨go, oo + i, none⟩ = some (.slice a (all.getD (ack + i) []).length c) ∧ BytesAt w (Old w.heap.size) a (all.getD (ack + i) [])) := by
    refine Lib.hid fun i hi => ?_
    obtain ⟨go, oo, e, hg, hc⟩ := hgc.2 (by omega)
    obtain ⟨a, c, h1, h2, h3⟩ := h.dat.2 i (by rw [List.length_drop]; exact hi)
    have e2 : (all.drop ack)[i]'(by rw [List.length_drop]; exact hi) = all.getD (ack + i) [] := by
      rw [List.getElem_drop, List.getD_eq_getElem?_getD, List.getElem?_eq_getElem (by omega)]; rfl
    rw [e2] at h1 h3
    exact ⟨go, oo, a, c, e, (h.row.lt hg).2, hc i _ h1, h3.far fun g hg => ⟨(h.dis g hg).1, rfl⟩⟩
  have HL := Lib.hid hl
  have HGL := Lib.hid hgl
  have hp := h.lt
  have hsub : IntKind.i64.wrap ((t : Int) - (f : Int)) = ((t - f : Nat) : Int) := by rw [IntWalk.i64_in _ (by omega)]; omega
  obtain ⟨d, hd⟩ : ∃ d, d = t - f := ⟨_, rfl⟩
  have HDD := Lib.hid hd
  rw [← hd] at hsub ⊢
  obtain ⟨i0, hi, hz0, hz1, hz2⟩ := info_parts infoP
  have hd9 : d ≤ 100000 := by omega
  clear h hgc hl hd hgn hgl
  go_enter Try.func21, Try.ntmps21
  go_wp2_with (first
    | (at_make; refine wpList_make_own _ rfl _ _ 37 rfl w.heap.size 49 i0 (.agg #[.int .u64 0, .slice none 0 0]) 2 Try.underlying37 hi hz0 hz1 .i64 .i64 _ d rfl rfl rfl (by rw [hz2]; omega) (by unfold maxLen; omega) (Nat.le_refl _) ?_; intro w2 hown hgrow
       have O2 := Lib.hid hown
       have B2 := Lib.hid (show Below w.heap.size w w2 from below_grown (Below.refl _ _) (Nat.le_refl _) hgrow (fun k hk => by cases hk))
       clear hown hgrow))
  go_loopw [7, 8] (fun vr vi wr => PkR w all ack f t vr vi wr) (fun _ vi _ => t - (intOf vi).toNat)
  case atStart => exact ⟨f, [], rfl, Nat.le_refl _, hft, by rw [Nat.sub_self]; exact O2.out, by rw [pkts_nil]; exact PkV.nil _ _, B2.out⟩
  case round =>
    obtain ⟨i, rcs, rfl, hfi, hit, hO, hP, hB⟩ := hrel
    have HO := Lib.hid hO
    have HP := Lib.hid hP
    have HB := Lib.hid hB
    obtain ⟨ra, rn, rk, e⟩ := own_slice hO
    subst e
    clear hO hP hB
    by_cases hlt : i < t
    · have hlz : (i : Int) < (t : Int) := by omega
      obtain ⟨go, oo, a, c, rfl, hgo, hcell, hby⟩ := HD.out i (by omega)
      obtain ⟨m, hm⟩ : ∃ m, m = (all.getD (ack + i) []).length := ⟨_, rfl⟩
      rw [← hm] at hcell
      have HM := Lib.hid hm
      have HBY := Lib.hid (show BytesAt wr (Old w.heap.size) a (all.getD (ack + i) []) from hby.later HB.out)
      have HLM := Lib.hid (show (all.getD (ack + i) []).length ≤ 100000000 from HL.out _ (by rw [List.getD_eq_getElem?_getD, List.getElem?_eq_getElem (by omega)]; exact List.getElem_mem _))
      have e1 : wr.cell? ⟨p, 1, none⟩ = some (.slice (some ⟨go, oo, none⟩) gn gk) := (HB.out.cell (p := ⟨p, 1, none⟩) hp).trans c1
      have e2 : wr.cell? ⟨p, 2, none⟩ = some (.int .u64 (ack : Int)) := (HB.out.cell (p := ⟨p, 2, none⟩) hp).trans c2
      have e3 : wr.cell? ⟨go, oo + i, none⟩ = some (.slice a m c) := (HB.out.cell (p := ⟨go, oo + i, none⟩) hgo).trans hcell
      have u1 : IntKind.u64.wrap (i : Int) = (i : Int) := wrapU rfl (by omega)
      have u2 : IntKind.u64.wrap ((ack : Int) + (i : Int)) = ((ack + i : Nat) : Int) := wrapU (by omega) (by omega)
      obtain ⟨z, hz⟩ : ∃ z : Int, z = ((ack + i : Nat) : Int) := ⟨_, rfl⟩
      rw [← hz] at u2
      have HZ := Lib.hid hz
      have hig : i < gn := by rw [HGL.out]; omega
      have hpr : p < wr.heap.size := Nat.lt_of_lt_of_le hp HB.out.size
      have hgr : go < wr.heap.size := Nat.lt_of_lt_of_le hgo HB.out.size
      clear hz hm hby hcell
      go_wp2_with fail
      go_region_law (first
        | (go_simp; go_at_call 20
           refine (clone_any (S := Old w.heap.size) a m c (all.getD (ack + i) []) wr.drew (show BytesAt wr.drew (Old w.heap.size) a (all.getD (ack + i) []) from HBY.out) HM.out HLM.out (show ∀ g, g < w.heap.size → g < wr.drew.heap.size from fun g hg => Nat.lt_of_lt_of_le hg HB.out.size)).mono ?_
           rintro e w1 ⟨a', c', rfl, h1, h2, h3⟩
           dsimp only
           have B1 := Lib.hid (show Below wr.heap.size wr w1 from ⟨h3.os, h3.tape, h3.output, h3.size, h3.block⟩)
           have A1 := Lib.hid (show BytesAt w1 (fun g => wr.heap.size ≤ g ∧ g < w1.heap.size) a' (all.getD (ack + i) []) from h2)
           have D1 := Lib.hid h1
           have R1 := Lib.hid (HO.out.later B1.out)
           have d1 : w1.cell? ⟨p, 1, none⟩ = some (.slice (some ⟨go, oo, none⟩) gn gk) := (B1.out.cell (p := ⟨p, 1, none⟩) hpr).trans e1
           have d2 : w1.cell? ⟨p, 2, none⟩ = some (.int .u64 (ack : Int)) := (B1.out.cell (p := ⟨p, 2, none⟩) hpr).trans e2
           have d3 : w1.cell? ⟨go, oo + i, none⟩ = some (.slice a m c) := (B1.out.cell (p := ⟨go, oo + i, none⟩) hgr).trans e3
           clear h1 h2 h3)
        | (refine step_append_pk rfl _ _ rfl w.heap.size (.slice ra rn rk) (i - f) rcs rfl (show OP (w1.alloc (.cells #[.int .u64 z, .slice a' m c'] 49)) w.heap.size (.slice ra rn rk) (i - f) rcs from R1.out.later (below_alloc _ _)) (some ⟨w1.heap.size, 0, none⟩) 1 1 [.int .u64 z, .slice a' m c'] rfl rfl (two_new w1 _ _ _) (by intro u hu; simp at hu; rcases hu with rfl | rfl <;> rfl) (by omega) (by have := B1.out.size; have := HB.out.size; simp; omega) ?_
           intro v' w3 hrow3 hg3 hat3
           obtain ⟨a3, n3, k3, e3⟩ := own_slice hrow3
           subst e3
           have R3 := Lib.hid hrow3
           have G3 := Lib.hid hg3
           have A3 := Lib.hid hat3
           clear hrow3 hg3 hat3))
      all_goals
        go_wp2_with fail
        go_roundw
        case rel =>
          obtain ⟨hp1, hb1⟩ := PkR.step (o := .cells #[.int .u64 z, .slice a' m c'] 49) hfi HO.out HP.out HB.out B1.out A1.out HM.out D1.out (show OP w3 w.heap.size (.slice a3 n3 k3) (i - f + 1) (rcs ++ [.int .u64 ((ack + i : Nat) : Int), .slice a' m c']) by rw [← HZ.out]; exact R3.out) G3.out A3.out
          exact ⟨i + 1, _, by go_num, by omega, by omega, by rw [show i + 1 - f = i - f + 1 by omega, HZ.out] at *; exact R3.out, hp1, hb1⟩
        case measure => simp [intOf]; omega
    · have hlz : ¬ (i : Int) < (t : Int) := by omega
      have hit2 : i = t := by omega
      subst hit2
      go_wp2_with fail
      go_ret
      have hO := HO.out
      obtain ⟨h1, h2, h3⟩ := hO.cells
      have hDD := HDD.out
      exact ⟨ra, rn, rk, rfl, by omega, by omega, rcs, h3.far fun g hg => ⟨hO.lt hg, rfl⟩, HP.out.far fun g hg => ⟨⟨hg.1, hg.2.1⟩, rfl⟩, HB.out⟩
end Go.Proofs.Ytnnoampmcghnaaa.Lk
