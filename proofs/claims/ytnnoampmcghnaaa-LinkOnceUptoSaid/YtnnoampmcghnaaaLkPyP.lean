/-
  LinkPlays under way: a sender, a receiver, the document's sender, packets in flight.
-/
import Derived.Test.YtnnoampmcghnaaaLkFl
import Derived.Test.YtnnoampmcghnaaaLkRefP
namespace Go.Proofs.Ytnnoampmcghnaaa.Lk
open Go.RowKit Go.Proofs.Ytnnoampmcghnaaa.Fl Go.Proofs.Ytnnoampmcghnaaa.Wi Go.Proofs.Ytnnoampmcghnaaa.Fr
set_option linter.unusedVariables false
set_option linter.unusedSimpArgs false
/-- The bounds. -/
def PyB (i N : Nat) (all : List (List UInt8)) (want : Nat) (fl : List Pk) : Prop := i ≤ N ∧ all.length ≤ i ∧ (∀ x ∈ all, x.length ≤ 200) ∧ want ≤ i ∧ fl.length ≤ 64 * i ∧ ∀ q ∈ fl, q.2.length ≤ 200 ∧ q.1 ≤ 100000
theorem PyB.succ {i N want want' : Nat} {all all' : List (List UInt8)} {fl fl' : List Pk} (h : PyB i N all want fl) (hi : i < N) (h1 : all'.length ≤ all.length + 1) (h2 : ∀ x ∈ all', x ∈ all ∨ x.length ≤ 200) (h3 : want' ≤ want + 1) (h4 : fl'.length ≤ fl.length + 64) (h5 : ∀ q ∈ fl', q ∈ fl ∨ (q.2.length ≤ 200 ∧ q.1 ≤ 100000)) : PyB (i + 1) N all' want' fl' := by
  obtain ⟨a1, a2, a3, a4, a5, a6⟩ := h
  refine ⟨hi, by omega, fun x hx => ?_, by omega, by omega, fun q hq => ?_⟩
  · rcases h2 x hx with h | h
    · exact a3 x h
    · exact h
  · rcases h5 q hq with h | h
    · exact a6 q h
    · exact h
/-- At the head of a round. -/
def PyR (w : World) (p r m win N : Nat) (v12 v10 v11 : Value) (wr : World) : Prop :=
  ∃ (i want ack told : Nat) (v va : Value) (cs lcs : List Value) (all : List (List UInt8)) (fa : Option Addr) (fc : Nat) (fcs : List Value) (fl : List Pk),
    v12 = .int .i64 (i : Int) ∧ v10 = .int .u64 (want : Int) ∧ v11 = .slice fa fl.length fc ∧ Hid (Co w p r m win wr v cs va lcs all ack told want fa fc fcs fl) ∧ Hid (Rf wr m win va ack told) ∧ Hid (FsV wr (Old w.heap.size) lcs all) ∧ Hid (PyB i N all want fl)
theorem fs_later {w wr V : World} {lcs : List Value} {all : List (List UInt8)} (h : FsV wr (Old w.heap.size) lcs all) (hz : w.heap.size ≤ wr.heap.size) (hb : Below wr.heap.size wr V) : FsV V (Old w.heap.size) lcs all :=
  h.far fun g hg => ⟨hg, hb.block g (Nat.lt_of_lt_of_le hg hz)⟩
section
variable {w : World} {p r m win : Nat} {W V : World} {v : Value} {cs : List Value} {va : Value} {lcs : List Value} {all : List (List UInt8)} {ack told want : Nat} {fa : Option Addr} {fc : Nat} {fcs : List Value} {fl : List Pk}
theorem fs_lv {X : Nat → Prop} (hC : Co w p r m win W v cs va lcs all ack told want fa fc fcs fl) {l : List (List UInt8)} {ds : List Value} (h : FsV W (Old w.heap.size) ds l) (hL : Lv X W V) (hX : ∀ g, X g → w.heap.size ≤ g) : FsV V (Old w.heap.size) ds l :=
  h.far fun g hg => ⟨hg, hL.block g (Nat.lt_of_lt_of_le hg hC.bel.size) fun hx => by have := hX g hx; have h2 : g < w.heap.size := hg; omega⟩
theorem Co.sp_le (hC : Co w p r m win W v cs va lcs all ack told want fa fc fcs fl) : ∀ g, Sp p v g → w.heap.size ≤ g := by
  have h1 := hC.hwp; have h2 := hC.hpr; have h3 := hC.hrm
  rintro g (e | e)
  · omega
  · have := hC.vm g e.symm; omega
/-- The document's sender is left by the program's. -/
theorem Co.rf_sp (hC : Co w p r m win W v cs va lcs all ack told want fa fc fcs fl) {a t : Nat} {x : Value} (hR : Rf W m win x a t) (hL : Lv (Sp p v) W V) : Rf V m win x a t :=
  (hL.block m hR.lt (by have h2 := hC.hpr; have h3 := hC.hrm; rintro (e | e); omega; (have := hC.vm m e.symm; omega))).trans hR
theorem py_len (hC : Co w p r m win W v cs va lcs all ack told want fa fc fcs fl) (hR : Rf W m win va ack told) {X : Nat → Prop} {l : List (List UInt8)} (hF : FsV W X lcs l) (hl : l.length ≤ 100000) (ha : ack ≤ l.length) :
    Calls Try.prog 10 #[.pointer (some ⟨m, 0, none⟩)] W fun e w' => e = .returned (.int .i64 ((l.length - ack : Nat) : Int)) ∧ Below W.heap.size W w' := by
  obtain ⟨a, n, c, rfl⟩ := own_slice hC.row
  obtain ⟨hn, -⟩ := hC.row.cells
  have hnl : n = l.length := by rw [hn, hF.1]
  subst hnl
  exact rlen_any W hR (by omega) ha
theorem py_tail (hC : Co w p r m win W v cs va lcs all ack told want fa fc fcs fl) (hR : Rf W m win va ack told) {X : Nat → Prop} (hF : FsV W X lcs all) : ∃ q : Nat,
    (Calls Try.prog 19 #[.pointer (some ⟨p, 0, none⟩)] W fun e w' => e = .returned (.int .i64 (q : Int)) ∧ W = w') ∧ Calls Try.prog 10 #[.pointer (some ⟨m, 0, none⟩)] W fun e w' => e = .returned (.int .i64 (q : Int)) ∧ Below W.heap.size W w' :=
  ⟨all.length - ack, slen_any W hC.snd, py_len hC hR hF hC.snd.hln (by have := hC.snd.hat; have := hC.snd.htl; omega)⟩
theorem py_fresh (hC : Co w p r m win W v cs va lcs all ack told want fa fc fcs fl) {a t : Nat} (hR : Rf W m win va a t) {X : Nat → Prop} {l : List (List UInt8)} (hF : FsV W X lcs l) (hl : l.length ≤ 100000) (ha : a ≤ l.length) (tl : Nat) (htl : tl = toldF win l.length a) (ht : t ≤ tl) :
    Calls Try.prog 12 #[.pointer (some ⟨m, 0, none⟩)] W fun e w' => e = .returned (.tuple #[.int .i64 (t : Int), .int .i64 (tl : Int)]) ∧ Rf w' m win va a tl ∧ Lv (fun g => g = m) W w' := by
  obtain ⟨x, n, c, rfl⟩ := own_slice hC.row
  obtain ⟨hn, -⟩ := hC.row.cells
  have hnl : n = l.length := by rw [hn, hF.1]
  subst hnl
  exact rfresh_any W hR (by omega) ha hC.snd.hw2 tl htl ht
theorem py_pk (hC : Co w p r m win W v cs va lcs all ack told want fa fc fcs fl) {a0 t0 : Nat} (hR : Rf W m win va a0 t0) {l : List (List UInt8)} (hF : FsV W (Old w.heap.size) lcs l) (hl : l.length ≤ 100000) {a : Option Addr} {n c : Nat} {rcs : List Value} (f t : Nat) (hft : f ≤ t) (ht : t ≤ l.length) (hn : n = t - f)
    (hA : CeAt W (Dt W p r m v va) a rcs) (hP : PkV W (Dt W p r m v va) rcs (pkts l f t)) :
    Calls Try.prog 13 #[.slice a n c, .pointer (some ⟨m, 0, none⟩), .int .i64 (f : Int), .int .i64 (t : Int)] W fun e w' => e = .returned (.bool true) ∧ Below W.heap.size W w' := by
  obtain ⟨x, n', c', rfl⟩ := own_slice hC.row
  obtain ⟨hn', hc'⟩ := hC.row.cells
  exact rpk_any (U := fun g => g < W.heap.size) f t W hA hP hn hR (hc'.far fun g hg => ⟨(hC.row.lt hg).2, rfl⟩) (hF.far fun g hg => ⟨Nat.lt_of_lt_of_le hg hC.bel.size, rfl⟩) hn' hft ht hl (fun g hg => hg.1) (fun g hg => hg.1) (fun g hg => hg)
/-- The document's row grows. -/
theorem py_grow {w5 : World} {va' : Value} {o : Obj} {x : Value} (hC : Co w p r m win W v cs va lcs all ack told want fa fc fcs fl) (hne : m ≠ r) (hR : Rf W m win va ack told) (hO : OS w5 (m + 1) va' (lcs ++ [x])) (hG : (W.alloc o).drew.grownBy w5 va.ownBlock) (hat : va'.ownBlock = va.ownBlock ∨ va'.ownBlock = some (W.alloc o).drew.heap.size) :
    Co w p r m win (w5.setCell ⟨m, 1, none⟩ va') v cs va' (lcs ++ [x]) all ack told want fa fc fcs fl ∧ Rf (w5.setCell ⟨m, 1, none⟩ va') m win va' ack told ∧ ∀ (l : List (List UInt8)) (ds : List Value), FsV W (Old w.heap.size) ds l → FsV (w5.setCell ⟨m, 1, none⟩ va') (Old w.heap.size) ds l := by
  have hz2 : (W.alloc o).drew.heap.size = W.heap.size + 1 := by show (W.alloc o).heap.size = _; simp
  have hL : Lv (fun g => (g = m ∧ m ≠ r) ∨ some g = va.ownBlock) W (w5.setCell ⟨m, 1, none⟩ va') :=
    Lv.set (Lv.grown ((Lv.refl _ W).alloc o).drew hG (fun k hk => Or.inl (Or.inr hk.symm))) m 1 va' (Or.inl (Or.inl ⟨rfl, hne⟩))
  have hmv : ∀ k, va.ownBlock = some k → m < k := fun k hk => by have := (hC.row.lt hk).1; omega
  have hbq : Bq w5 m 35 #[.int .i64 (win : Int), va, .int .i64 (ack : Int), .int .i64 (told : Int)] := by
    unfold Bq
    rw [hG.block m (by have := hC.hmz; omega) (fun e => by have := hmv m e.symm; omega)]
    show (W.alloc o).heap[m]? = _
    rw [Below.heap_alloc _ _ _ hC.hmz]
    exact hR
  refine ⟨hC.grew hL (fun g hg => hg) ?_ (hO.keep fun g hg => Below.heap_setCell _ _ _ _ (by have := (hO.lt hg).1; show g ≠ m; omega)), ?_, fun l ds h => fs_lv hC h hL fun g hg => ?_⟩
  · rcases hat with e | e
    · exact Or.inl e
    · exact Or.inr ⟨_, e, by omega⟩
  · have := hbq.set 1 va'
    show Bq _ _ _ _
    simpa using this
  · have h1 := hC.hwp; have h2 := hC.hpr; have h3 := hC.hrm
    rcases hg with e | e
    · omega
    · have := hmv g e.symm; omega
end
end Go.Proofs.Ytnnoampmcghnaaa.Lk
