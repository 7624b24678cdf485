/-
  LinkOnce under way: a sender, a receiver, what was taken, packets in flight.
-/
import Derived.Test.YtnnoampmcghnaaaLkFl
namespace Go.Proofs.Ytnnoampmcghnaaa.Lk
open Go.RowKit Go.Proofs.Ytnnoampmcghnaaa.Fl Go.Proofs.Ytnnoampmcghnaaa.Wi Go.Proofs.Ytnnoampmcghnaaa.Fr
set_option linter.unusedVariables false
set_option linter.unusedSimpArgs false
/-- The bounds: what is in flight was told, with its own data; what was taken lies between what was acknowledged and what was told. -/
def OnB (i : Nat) (D : List (List UInt8)) (ack want told : Nat) (fl : List Pk) : Prop := ack ≤ want ∧ want ≤ told ∧ fl.length ≤ 70 * i ∧ ∀ q ∈ fl, q.1 < told ∧ q.2 = D.getD q.1 []
/-- At the head of a round of the first loop. -/
def OnR (w : World) (p r win M : Nat) (D : List (List UInt8)) (v11 v12 v13 v14 : Value) (wr : World) : Prop :=
  ∃ (va : Value) (i ack told want : Nat) (v : Value) (cs gcs : List Value) (fa : Option Addr) (fc : Nat) (fcs : List Value) (fl : List Pk),
    va = v11 ∧ v14 = .int .i64 (i : Int) ∧ v13 = .int .i64 ((min i D.length : Nat) : Int) ∧ v12 = .slice fa fl.length fc ∧ i ≤ M ∧ Hid (Co w p r r win wr v cs va gcs (D.take (min i D.length)) ack told want fa fc fcs fl) ∧ Hid (FsV wr (Dt wr p r r v va) gcs (D.take want)) ∧ Hid (OnB i D ack want told fl)
/-- Behind the first 'if' of a round: one more was sent, where there is one. -/
def OnC (w : World) (p r win : Nat) (D : List (List UInt8)) (i ack told want : Nat) (va : Value) (gcs : List Value) (fa : Option Addr) (fc : Nat) (fcs : List Value) (fl : List Pk) (v13 : Value) (wr : World) : Prop :=
  ∃ (v : Value) (cs : List Value), v13 = .int .i64 ((min (i + 1) D.length : Nat) : Int) ∧ Hid (Co w p r r win wr v cs va gcs (D.take (min (i + 1) D.length)) ack told want fa fc fcs fl) ∧ Hid (FsV wr (Dt wr p r r v va) gcs (D.take want))
/-- At the head of a round of the second loop. -/
def On2 (w : World) (p r win : Nat) (D : List (List UInt8)) (v20 v11 : Value) (wr : World) : Prop :=
  ∃ (va : Value) (j ack told want : Nat) (v : Value) (cs gcs : List Value), va = v11 ∧ v20 = .int .i64 (j : Int) ∧ j ≤ D.length ∧ j ≤ ack ∧ ack ≤ want ∧ want ≤ told ∧ Hid (Co w p r r win wr v cs va gcs D ack told want none 0 [] []) ∧ Hid (FsV wr (Dt wr p r r v va) gcs (D.take want))
/-- At the head of a round of the loop within it. -/
def On3 (w : World) (p r win : Nat) (D : List (List UInt8)) (ack told n : Nat) (v : Value) (cs : List Value) (a : Option Addr) (c : Nat) (rcs : List Value) (v22 v11 : Value) (wr : World) : Prop :=
  ∃ (va : Value) (k want : Nat) (gcs : List Value), va = v11 ∧ v22 = .int .i64 (k : Int) ∧ k ≤ n ∧ ack + k ≤ want ∧ want ≤ told ∧ Hid (Co w p r r win wr v cs va gcs D ack told want a c rcs (pkts D ack told)) ∧ Hid (FsV wr (Dt wr p r r v va) gcs (D.take want))
/-- At the head of a round of the last loop. -/
def On4 (K : Nat) (U : World) (v25 : Value) (wr : World) : Prop := ∃ t : Nat, v25 = .int .i64 (t : Int) ∧ t ≤ K ∧ Hid (Below U.heap.size U wr)
theorem take_succ {D : List (List UInt8)} {n : Nat} (h : n < D.length) : D.take (n + 1) = D.take n ++ [D.getD n []] := by
  rw [List.getD_eq_getElem?_getD, List.getElem?_eq_getElem h]
  exact (List.take_append_getElem h).symm
theorem OP.mono {W : World} {z z' n : Nat} {v : Value} {cs : List Value} (h : OP W z v n cs) (hz : z' ≤ z) : OP W z' v n cs := by
  obtain ⟨h1, h2⟩ := h
  refine ⟨h1, ?_⟩
  rcases h2 with h2 | ⟨g, cap, cur, e, hb, r⟩
  · exact Or.inl h2
  · exact Or.inr ⟨g, cap, cur, e, by omega, r⟩
theorem CeAt.alloc {W : World} {S : Nat → Prop} {a : Option Addr} {cs : List Value} (h : CeAt W S a cs) (hS : ∀ g, S g → g < W.heap.size) (o : Obj) : CeAt (W.alloc o) S a cs := h.far fun g hg => ⟨hg, Below.heap_alloc _ _ _ (hS g hg)⟩
theorem two_new' (w : World) (x y : Value) (t : TypeId) : CeAt (w.alloc (.cells #[x, y] t)) (fun g => g = w.heap.size) (some ⟨w.heap.size, 0, none⟩) [x, y] := by
  intro h
  obtain ⟨g, o, e, _, hc⟩ := two_new w x y t h
  cases e
  exact ⟨_, 0, rfl, rfl, hc⟩
section
variable {w : World} {p r m win : Nat} {W V : World} {v : Value} {cs : List Value} {va : Value} {lcs : List Value} {all : List (List UInt8)} {ack told want : Nat} {fa : Option Addr} {fc : Nat} {fcs : List Value} {fl : List Pk}
/-- Data that lie in no block that is written. -/
theorem fsd {X : Nat → Prop} {v' va' : Value} {ds : List Value} {l : List (List UInt8)} (h : FsV W (Dt W p r m v va) ds l) (hL : Lv X W V) (hX : ∀ g, X g → g = p ∨ g = r ∨ g = m ∨ some g = v.ownBlock ∨ some g = va.ownBlock) (hv : Nxt W v v') (ha : Nxt W va va') : FsV V (Dt V p r m v' va') ds l :=
  h.far fun g hg => ⟨hg.keep hL.size hv ha, hL.block g hg.1 fun hx => by
    obtain ⟨e1, e2, e3, e4, e5, e6⟩ := hg
    rcases hX g hx with e | e | e | e | e
    · exact e2 e
    · exact e3 e
    · exact e4 e
    · exact e5 e
    · exact e6 e⟩
theorem fsd_later {ds : List Value} {l : List (List UInt8)} (h : FsV W (Dt W p r m v va) ds l) (hb : Below W.heap.size W V) : FsV V (Dt V p r m v va) ds l :=
  fsd h (X := fun _ => False) (Lv.of_below hb) (fun _ hx => hx.elim) (Nxt.refl _ _) (Nxt.refl _ _)
/-- What was taken grows. -/
theorem on_grow {va' : Value} {o : Obj} {x : Value} (hC : Co w p r r win W v cs va lcs all ack told want fa fc fcs fl) (hO : OS V (r + 1) va' (lcs ++ [x])) (hG : (W.alloc o).grownBy V va.ownBlock) (hat : va'.ownBlock = va.ownBlock ∨ va'.ownBlock = some (W.alloc o).heap.size) :
    Co w p r r win V v cs va' (lcs ++ [x]) all ack told want fa fc fcs fl ∧ ∀ (ds : List Value) (l : List (List UInt8)), FsV W (Dt W p r r v va) ds l → FsV V (Dt V p r r v va') ds l := by
  have hz2 : (W.alloc o).heap.size = W.heap.size + 1 := by simp
  have hL : Lv (fun g => some g = va.ownBlock) W V := Lv.grown ((Lv.refl _ W).alloc o) hG (fun k hk => Or.inl hk.symm)
  have hn : Nxt W va va' := by
    rcases hat with e | e
    · exact Or.inl e
    · exact Or.inr ⟨_, e, by omega⟩
  exact ⟨hC.grew hL (fun g hg => Or.inr hg) hn hO, fun ds l h => fsd h hL (fun g hg => Or.inr (Or.inr (Or.inr (Or.inr hg)))) (Nxt.refl _ _) hn⟩
/-- Fresh between two appends to a new row: all but that row is as it was, and the sender has told more. -/
theorem on_fresh {U2 U3 : World} {told' : Nat} {row : Option Nat} (hC : Co w p r m win W v cs va lcs all ack told want fa fc fcs fl) (h2 : Below W.heap.size W U2) (hs : Sn U3 (Dt W p r m v va) p win v cs all ack told') (h3 : Lv (fun g => g = p) U2 U3) (hg : U3.grownBy V row) (hrow : ∀ k, row = some k → W.heap.size ≤ k) :
    Co w p r m win V v cs va lcs all ack told' want fa fc fcs fl ∧ Lv (fun g => g = p) W V := by
  have hz := h2.size
  have hL : Lv (fun g => g = p) W V := ((Lv.of_below h2).trans h3 (fun g _ hg => hg)).grown hg (fun k hk => Or.inr (hrow k hk))
  have hz3 : U2.heap.size ≤ U3.heap.size := h3.size
  have hne : ∀ g, g < W.heap.size → some g ≠ row := fun g hg e => by have := hrow g e.symm; omega
  refine ⟨hC.snt (S := Dt W p r m v va) (hL.mono fun g _ hg => Or.inl hg) (Nxt.refl _ _) (hs.keep (hg.block p hs.lt (hne p hC.snd.lt)) (fun g hg' => hg.block g (by have := hs.own hg'; omega) (hne g (hC.snd.own hg').2)) (fun g hg' => ⟨hg', hg.block g (by have := hg'.1; omega) (hne g hg'.1)⟩) (fun g hg' => ⟨Nat.lt_of_lt_of_le hg'.1 hL.size, hg'.2.1, hg'.2.2.2.2.1⟩)) (fun g hg' => Or.inl hg'), hL⟩
end
end Go.Proofs.Ytnnoampmcghnaaa.Lk
