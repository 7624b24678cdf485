/-
  A sender, a receiver, a row of slices, and packets in flight, under way together. No function of the program here.
-/
import Derived.Test.YtnnoampmcghnaaaLkUp
namespace Go.Proofs.Ytnnoampmcghnaaa.Lk
open Go.RowKit Go.Proofs.Ytnnoampmcghnaaa.Fl Go.Proofs.Ytnnoampmcghnaaa.Wi Go.Proofs.Ytnnoampmcghnaaa.Fr
set_option linter.unusedVariables false
set_option linter.unusedSimpArgs false

/-- Blocks that hold nothing that is written anew. -/
def Dt (W : World) (p r m : Nat) (v va : Value) (g : Nat) : Prop := g < W.heap.size ∧ g ≠ p ∧ g ≠ r ∧ g ≠ m ∧ some g ≠ v.ownBlock ∧ some g ≠ va.ownBlock
theorem nxt_ne {W : World} {v v' : Value} (h : Nxt W v v') {g : Nat} (hg : g < W.heap.size) (hv : some g ≠ v.ownBlock) : some g ≠ v'.ownBlock := by
  rcases h with e | ⟨b, e, hb⟩
  · rw [e]; exact hv
  · rw [e]; intro e2; cases e2; omega
theorem nxt_lt {W : World} {v v' : Value} (h : Nxt W v v') {g : Nat} (hg : W.heap.size ≤ g) (hv : ∀ k, v.ownBlock = some k → k < W.heap.size) (hn : v'.ownBlock = v.ownBlock ∨ ∀ k, v'.ownBlock = some k → g < k) : some g ≠ v'.ownBlock := by
  intro e
  rcases hn with e2 | h2
  · rw [e2] at e; have := hv g e.symm; omega
  · have := h2 g e.symm; omega
theorem Dt.keep {W V : World} {p r m : Nat} {v va v' va' : Value} {g : Nat} (h : Dt W p r m v va g) (hz : W.heap.size ≤ V.heap.size) (hv : Nxt W v v') (ha : Nxt W va va') : Dt V p r m v' va' g :=
  ⟨Nat.lt_of_lt_of_le h.1 hz, h.2.1, h.2.2.1, h.2.2.2.1, nxt_ne hv h.1 h.2.2.2.2.1, nxt_ne ha h.1 h.2.2.2.2.2⟩
structure Co (w : World) (p r m win : Nat) (wr : World) (v : Value) (cs : List Value) (va : Value) (lcs : List Value) (all : List (List UInt8)) (ack told want : Nat) (fa : Option Addr) (fc : Nat) (fcs : List Value) (fl : List Pk) : Prop where
  bel : Below w.heap.size w wr
  hwp : w.heap.size ≤ p
  hpr : p < r
  hrm : r ≤ m
  hmz : m < wr.heap.size
  snd : Sn wr (Dt wr p r m v va) p win v cs all ack told
  rcv : Bq wr r 59 #[.int .u64 (want : Int)]
  row : OS wr (m + 1) va lcs
  vm : ∀ k, v.ownBlock = some k → m < k
  vne : ∀ k, v.ownBlock = some k → va.ownBlock ≠ some k
  fcel : CeAt wr (Dt wr p r m v va) fa fcs
  fpk : PkV wr (Dt wr p r m v va) fcs fl
  fle : fl.length ≤ fc
section
variable {w : World} {p r m win : Nat} {wr : World} {v : Value} {cs : List Value} {va : Value} {lcs : List Value} {all : List (List UInt8)} {ack told want : Nat} {fa : Option Addr} {fc : Nat} {fcs : List Value} {fl : List Pk}
/-- New blocks. -/
theorem Co.new {V : World} (h : Co w p r m win wr v cs va lcs all ack told want fa fc fcs fl) {g : Nat} (h1 : wr.heap.size ≤ g) (h2 : g < V.heap.size) : Dt V p r m v va g := by
  have := h.hpr; have := h.hrm; have := h.hmz
  exact ⟨h2, by omega, by omega, by omega, fun e => by have := (h.snd.own e.symm).2; omega, fun e => by have := (h.row.lt e.symm).2; omega⟩
theorem Co.next {V : World} {X : Nat → Prop} {v' va' : Value} {cs' lcs' : List Value} {all' : List (List UInt8)} {ack' told' want' : Nat} (h : Co w p r m win wr v cs va lcs all ack told want fa fc fcs fl) (hL : Lv X wr V)
    (hX : ∀ g, X g → g = p ∨ g = r ∨ g = m ∨ some g = v.ownBlock ∨ some g = va.ownBlock) (hv : Nxt wr v v') (ha : Nxt wr va va') (hne : ∀ k, v'.ownBlock = some k → va'.ownBlock ≠ some k)
    {S : Nat → Prop} (hs : Sn V S p win v' cs' all' ack' told') (hS : ∀ g, S g → Dt V p r m v' va' g) (hr : Bq V r 59 #[.int .u64 (want' : Int)]) (hrow : OS V (m + 1) va' lcs') : Co w p r m win V v' cs' va' lcs' all' ack' told' want' fa fc fcs fl := by
  have h1 := h.hpr; have h2 := h.hrm; have h3 := h.hmz; have h4 := h.hwp
  have hz := h.bel.size
  have hb : ∀ g, Dt wr p r m v va g → Dt V p r m v' va' g ∧ V.heap[g]? = wr.heap[g]? := fun g hg => ⟨hg.keep hL.size hv ha, hL.block g hg.1 fun hx => by
    obtain ⟨e1, e2, e3, e4, e5, e6⟩ := hg
    rcases hX g hx with e | e | e | e | e
    · exact e2 e
    · exact e3 e
    · exact e4 e
    · exact e5 e
    · exact e6 e⟩
  refine ⟨h.bel.trans (hL.old hz fun k hk hx => ?_), h4, h1, h2, Nat.lt_of_lt_of_le h3 hL.size, hs.keep rfl (fun _ _ => rfl) (fun g hg => ⟨hS g hg, rfl⟩) (fun g hg => ⟨hg.1, hg.2.1, hg.2.2.2.2.1⟩), hr, hrow, fun k hk => ?_, hne, h.fcel.far hb, h.fpk.far hb, h.fle⟩
  · rcases hX k hx with e | e | e | e | e
    · omega
    · omega
    · omega
    · have := h.vm k e.symm; omega
    · have := (h.row.lt e.symm).1; omega
  · rcases hv with e | ⟨b, e, hb⟩
    · exact h.vm k (by rw [← e]; exact hk)
    · rw [e] at hk; cases hk; omega
/-- What makes memory only. -/
theorem Co.later {V : World} (h : Co w p r m win wr v cs va lcs all ack told want fa fc fcs fl) (hb : Below wr.heap.size wr V) : Co w p r m win V v cs va lcs all ack told want fa fc fcs fl :=
  h.next (X := fun _ => False) (Lv.of_below hb) (fun _ hx => hx.elim) (Nxt.refl _ _) (Nxt.refl _ _) h.vne (h.snd.later hb) (fun g hg => hg.keep hb.size (Nxt.refl _ _) (Nxt.refl _ _)) (h.rcv.later hb) (h.row.later hb)
theorem Co.alloc (h : Co w p r m win wr v cs va lcs all ack told want fa fc fcs fl) (o : Obj) : Co w p r m win (wr.alloc o) v cs va lcs all ack told want fa fc fcs fl := h.later (below_alloc _ _)
/-- What the sender's calls leave. -/
theorem Co.snt {V : World} {v' : Value} {cs' : List Value} {all' : List (List UInt8)} {ack' told' : Nat} (h : Co w p r m win wr v cs va lcs all ack told want fa fc fcs fl) (hL : Lv (Sp p v) wr V) (hv : Nxt wr v v')
    {S : Nat → Prop} (hs : Sn V S p win v' cs' all' ack' told') (hS : ∀ g, S g → Dt wr p r m v va g ∨ Nw wr V v' g) : Co w p r m win V v' cs' va lcs all' ack' told' want fa fc fcs fl := by
  have h1 := h.hpr; have h2 := h.hrm; have h3 := h.hmz
  have hrX : ¬ Sp p v r := by rintro (e | e); omega; (have := h.vm r e.symm; omega)
  have hvaX : ∀ g, va.ownBlock = some g → ¬ Sp p v g := fun g hg => by
    rintro (e | e)
    · have := (h.row.lt hg).1; omega
    · exact h.vne g e.symm hg
  refine h.next hL (fun g hg => by rcases hg with e | e; exact Or.inl e; exact Or.inr (Or.inr (Or.inr (Or.inl e)))) hv (Nxt.refl _ _) (fun k hk => ?_) hs (fun g hg => ?_) ((hL.block r h.rcv.lt hrX).trans h.rcv) (h.row.keep fun g hg => hL.block g (h.row.lt hg).2 (hvaX g hg))
  · rcases hv with e | ⟨b, e, hb⟩
    · exact h.vne k (by rw [← e]; exact hk)
    · rw [e] at hk; cases hk
      intro e2; have := (h.row.lt e2).2; omega
  · rcases hS g hg with h5 | ⟨h5, h6, h7⟩
    · exact h5.keep hL.size hv (Nxt.refl _ _)
    · exact ⟨h6, by omega, by omega, by omega, h7, fun e => by have := (h.row.lt e.symm).2; omega⟩
/-- What the receiver's Take leaves. -/
theorem Co.took {V : World} {want' : Nat} (h : Co w p r m win wr v cs va lcs all ack told want fa fc fcs fl) (hL : Lv (fun g => g = r) wr V) (hr : Bq V r 59 #[.int .u64 (want' : Int)]) : Co w p r m win V v cs va lcs all ack told want' fa fc fcs fl := by
  have h1 := h.hpr; have h2 := h.hrm; have h3 := h.hmz
  have hb : ∀ g, Dt wr p r m v va g → Dt V p r m v va g ∧ V.heap[g]? = wr.heap[g]? := fun g hg => ⟨hg.keep hL.size (Nxt.refl _ _) (Nxt.refl _ _), hL.block g hg.1 hg.2.2.1⟩
  refine h.next hL (fun g hg => Or.inr (Or.inl hg)) (Nxt.refl _ _) (Nxt.refl _ _) h.vne (h.snd.keep (T := Dt V p r m v va) (hL.block p h.snd.lt (by omega)) (fun g hg => hL.block g (h.snd.own hg).2 (by have := h.vm g hg; omega)) hb (fun g hg => ⟨hg.1, hg.2.1, hg.2.2.2.2.1⟩)) (fun g hg => hg) hr (h.row.keep fun g hg => hL.block g (h.row.lt hg).2 (by have := (h.row.lt hg).1; omega))
/-- The row grows, or the block m is written. -/
theorem Co.grew {V : World} {va' : Value} {lcs' : List Value} {X : Nat → Prop} (h : Co w p r m win wr v cs va lcs all ack told want fa fc fcs fl) (hL : Lv X wr V) (hX : ∀ g, X g → (g = m ∧ m ≠ r) ∨ some g = va.ownBlock) (ha : Nxt wr va va') (hrow : OS V (m + 1) va' lcs') : Co w p r m win V v cs va' lcs' all ack told want fa fc fcs fl := by
  have h1 := h.hpr; have h2 := h.hrm; have h3 := h.hmz
  have hb : ∀ g, Dt wr p r m v va g → Dt V p r m v va' g ∧ V.heap[g]? = wr.heap[g]? := fun g hg => ⟨hg.keep hL.size (Nxt.refl _ _) ha, hL.block g hg.1 fun hx => by
    rcases hX g hx with e | e
    · exact hg.2.2.2.1 e.1
    · exact hg.2.2.2.2.2 e⟩
  refine h.next hL (fun g hg => by rcases hX g hg with e | e; exact Or.inr (Or.inr (Or.inl e.1)); exact Or.inr (Or.inr (Or.inr (Or.inr e)))) (Nxt.refl _ _) ha (fun k hk => ?_) (h.snd.keep (T := Dt V p r m v va') (hL.block p h.snd.lt fun hx => ?_) (fun g hg => hL.block g (h.snd.own hg).2 fun hx => ?_) hb (fun g hg => ⟨hg.1, hg.2.1, hg.2.2.2.2.1⟩)) (fun g hg => hg) ((hL.block r h.rcv.lt fun hx => ?_).trans h.rcv) hrow
  · rcases ha with e | ⟨b, e, hb⟩
    · rw [e]; exact h.vne k hk
    · rw [e]; intro e2; cases e2; have := (h.snd.own hk).2; omega
  · rcases hX p hx with e | e
    · omega
    · have := (h.row.lt e.symm).1; omega
  · rcases hX g hx with e | e
    · have := h.vm g hg; omega
    · exact h.vne g hg e.symm
  · rcases hX r hx with e | e
    · omega
    · have := (h.row.lt e.symm).1; omega
/-- Another flight. -/
theorem Co.flew {fa' : Option Addr} {fc' : Nat} {fcs' : List Value} {fl' : List Pk} (h : Co w p r m win wr v cs va lcs all ack told want fa fc fcs fl) (h1 : CeAt wr (Dt wr p r m v va) fa' fcs') (h2 : PkV wr (Dt wr p r m v va) fcs' fl') (h3 : fl'.length ≤ fc') : Co w p r m win wr v cs va lcs all ack told want fa' fc' fcs' fl' :=
  ⟨h.bel, h.hwp, h.hpr, h.hrm, h.hmz, h.snd, h.rcv, h.row, h.vm, h.vne, h1, h2, h3⟩
end
/-- A row of new memory is read. -/
theorem OP.dt {V : World} {z n c N : Nat} {a : Option Addr} {rcs : List Value} {D : Nat → Prop} (h : OP V z (.slice a n c) N rcs) (hD : ∀ g, z ≤ g → g < V.heap.size → D g) : CeAt V D a rcs := by
  obtain ⟨_, _, h3⟩ := h.cells
  exact h3.far fun g hg => ⟨hD g (h.lt hg).1 (h.lt hg).2, rfl⟩
end Go.Proofs.Ytnnoampmcghnaaa.Lk
