/-
  A reader of frames under way: what a call of Feed carries along. No function of the program here.
-/
import Derived.Test.YthoajnpdnagdbaaFrTake
import Derived.Test.YthoajnpdnagdbaaFrRef
namespace Go.Proofs.Ythoajnpdnagdbaa.Fr
open Go.RowKit Go.Proofs.Ythoajnpdnagdbaa.Fl Go.Proofs.Ythoajnpdnagdbaa.Wi
set_option linter.unusedVariables false
set_option linter.unusedSimpArgs false

theorem or_head {x y : Nat} (hx : x < 256) (hy : y < 256) : bits .or .i64 ((x : Int) * 256) (y : Int) = ((256 * x + y : Nat) : Int) := by
  have e : (x : Int) * 256 = ((256 * x : Nat) : Int) := by omega
  have h1 : (BitVec.ofInt 64 ((256 * x : Nat) : Int)).toNat = 256 * x := by
    rw [BitVec.ofInt_natCast, BitVec.toNat_ofNat]; exact Nat.mod_eq_of_lt (by omega)
  have h2 : (BitVec.ofInt 64 (y : Int)).toNat = y := by
    rw [BitVec.ofInt_natCast, BitVec.toNat_ofNat]; exact Nat.mod_eq_of_lt (by omega)
  have h3 : 256 * x ||| y = 256 * x + y := (Nat.two_pow_add_eq_or_of_lt (i := 8) (b := y) (by omega) x).symm
  rw [e]
  show IntKind.i64.wrap ((BitVec.ofInt 64 ((256 * x : Nat) : Int) ||| BitVec.ofInt 64 (y : Int)).toNat : Int) = _
  rw [BitVec.toNat_or, h1, h2, h3, IntWalk.i64_in _ (by omega)]
/-- No frame is whole, none is too long. -/
def Sh (u : List UInt8) : Prop := (frs u).1 = [] ∧ (frs u).2.1 ≠ 5
theorem Sh.nil : Sh [] := by unfold Sh; rw [frs_nil]; simp
theorem Sh.len {x y : UInt8} {s : List UInt8} (h : Sh (x :: y :: s)) : s.length < 256 * x.toNat + y.toNat := by
  unfold Sh at h
  by_cases h1 : 4000 < 256 * x.toNat + y.toNat
  · rw [frs_long h1] at h; exact absurd rfl h.2
  · by_cases h2 : s.length < 256 * x.toNat + y.toNat
    · exact h2
    · rw [frs_whole h1 h2] at h; cases h.1
theorem frs_short3 {l : List UInt8} (h : l.length < 2) : frs l = ([], (if l = [] then 0 else 6), l) := by
  match l, h with
  | [], _ => rw [frs_nil]; simp
  | [a], _ => rw [frs_one]; simp
/-- Bytes of one's own are read in their own block. -/
theorem own_bytes {W : World} {z : Nat} {a : Option Addr} {n c : Nat} {l : List UInt8} (h : OB W z (.slice a n c) l) : n = l.length ∧ l.length ≤ c ∧ BytesAt W (fun g => (Value.slice a n c).ownBlock = some g) a l := by
  obtain ⟨hn, hc, hb⟩ := h.bytes
  refine ⟨hn, hc, hb.1, fun h0 => ?_⟩
  obtain ⟨g, o, e, _, hcl⟩ := hb.2 h0
  refine ⟨g, o, e, ?_, hcl⟩
  rcases h.2 with ⟨e2, h2⟩ | ⟨g', cap, cur, e2, _⟩
  · rw [h2] at h0; exact absurd h0 (Nat.lt_irrefl _)
  · cases e2
    cases e
    rfl
/-- Where the frames told may lie. -/
def TX (w wr : World) (p : Nat) (v v' t : Value) (g : Nat) : Prop := g < wr.heap.size ∧ g ≠ p ∧ (some g = v.ownBlock ∨ w.heap.size ≤ g) ∧ some g ≠ v'.ownBlock ∧ some g ≠ t.ownBlock
/-- Feed under way: the reader holds u', the row t holds the frames L, r is to come. -/
structure FdS (w : World) (p : Nat) (v : Value) (S : Nat → Prop) (wr : World) (v' : Value) (u' : List UInt8) (lg : Bool) (t : Value) (cs : List Value) (L : List (List UInt8)) (a : Option Addr) (c : Nat) (r : List UInt8) : Prop where
  by' : BytesAt w S a r
  cap : r.length ≤ c
  row : OS wr w.heap.size t cs
  frm : FsV wr (TX w wr p v v' t) cs L
  rd : FrAt wr p v' u' lg
  fed : Fed w wr p v v'
  dis : ∀ k, v'.ownBlock = some k → t.ownBlock ≠ some k
  src : ∀ g, S g → g < w.heap.size ∧ g ≠ p ∧ some g ≠ v.ownBlock
  plt : p < w.heap.size
theorem FdS.bytes {w wr : World} {p : Nat} {v v' t : Value} {S : Nat → Prop} {u' r : List UInt8} {lg : Bool} {cs : List Value} {L : List (List UInt8)} {a : Option Addr} {c : Nat} (h : FdS w p v S wr v' u' lg t cs L a c r) : BytesAt wr S a r :=
  h.by'.far fun g hg => by
    obtain ⟨h1, h2, h3⟩ := h.src g hg
    exact ⟨hg, h.fed.block g h1 h2 h3⟩
theorem FdS.took {w wr w1 : World} {p k : Nat} {v v' v1 t : Value} {S : Nat → Prop} {u' u1 r : List UInt8} {lg : Bool} {cs : List Value} {L : List (List UInt8)} {a : Option Addr} {c : Nat} (h : FdS w p v S wr v' u' lg t cs L a c r) (hF : FrAt w1 p v1 u1 lg) (hd : Fed wr w1 p v' v1) (hk : k ≤ r.length) :
    FdS w p v S w1 v1 u1 lg t cs L (rest a c k) (c - k) (r.drop k) := by
  refine ⟨h.by'.drop hk h.cap, by rw [List.length_drop]; have := h.cap; omega, ?_, ?_, hF, h.fed.trans hd, ?_, h.src, h.plt⟩
  · refine h.row.keep fun g hg => hd.block g (h.row.lt hg).2 (by have := (h.row.lt hg).1; have := h.plt; omega) (fun e => h.dis g e.symm hg)
  · refine h.frm.far fun g hg => ?_
    obtain ⟨g1, g2, g3, g4, g5⟩ := hg
    refine ⟨⟨Nat.lt_of_lt_of_le g1 hd.size, g2, g3, ?_, g5⟩, hd.block g g1 g2 g4⟩
    rcases hd.nxt with e | e | ⟨b, e, hb⟩
    · rw [e]; intro e2; cases e2
    · rw [e]; exact g4
    · rw [e]; intro e2; cases e2; omega
  · intro k2 hk2 e2
    rcases hd.nxt with e | e | ⟨b, e, hb⟩
    · rw [e] at hk2; cases hk2
    · rw [e] at hk2; exact h.dis k2 hk2 e2
    · rw [e] at hk2; cases hk2; have := (h.row.lt e2).2; omega
theorem FdS.drew {w wr : World} {p : Nat} {v v' t : Value} {S : Nat → Prop} {u' r : List UInt8} {lg : Bool} {cs : List Value} {L : List (List UInt8)} {a : Option Addr} {c : Nat} (h : FdS w p v S wr v' u' lg t cs L a c r) : FdS w p v S wr.drew v' u' lg t cs L a c r :=
  ⟨h.by', h.cap, h.row, h.frm, h.rd, ⟨h.fed.os, h.fed.tape, h.fed.output, h.fed.size, h.fed.block, h.fed.nxt⟩, h.dis, h.src, h.plt⟩
/-- A frame is told. -/
theorem FdS.told {w wr w3 V : World} {p : Nat} {v t t' : Value} {S : Nat → Prop} {u' r : List UInt8} {cs : List Value} {L : List (List UInt8)} {a a1 : Option Addr} {c n1 c1 : Nat} (h : FdS w p v S wr (.slice a1 n1 c1) u' false t cs L a c r) (h2 : 2 ≤ u'.length) {o : Obj} (h3 : w3 = wr.alloc o)
    (hrow : OS V w.heap.size t' (cs ++ [.slice (rest a1 c1 2) (n1 - 2) (c1 - 2)])) (hg : w3.grownBy V t.ownBlock) (hat : t'.ownBlock = t.ownBlock ∨ t'.ownBlock = some w3.heap.size) :
    FdS w p v S (V.setCell ⟨p, 0, none⟩ (.slice none 0 0)) (.slice none 0 0) [] false t' (cs ++ [.slice (rest a1 c1 2) (n1 - 2) (c1 - 2)]) (L ++ [u'.drop 2]) a c r := by
  obtain ⟨hn1, hc1, hb1⟩ := own_bytes h.rd.2
  have hsz : wr.heap.size < w3.heap.size := by rw [h3]; simp
  have hold : ∀ g, g < wr.heap.size → g ≠ p → some g ≠ t.ownBlock → (V.setCell ⟨p, 0, none⟩ (.slice none 0 0)).heap[g]? = wr.heap[g]? := fun g g1 g2 g3 => by
    rw [Below.heap_setCell _ _ _ _ (show g ≠ p from g2), hg.block g (by omega) g3, h3, Below.heap_alloc _ _ _ g1]
  have hsize : ∀ g, g < wr.heap.size → g < (V.setCell ⟨p, 0, none⟩ (.slice none 0 0)).heap.size := fun g g1 => by
    have := hg.size
    simp [World.setCell]
    omega
  have ht : ∀ g, g < wr.heap.size → some g ≠ t.ownBlock → some g ≠ t'.ownBlock := fun g g1 g2 => by
    rcases hat with e | e
    · rw [e]; exact g2
    · rw [e]; intro e2; cases e2; omega
  have hpw : p < wr.heap.size := h.rd.lt
  have hFV : FrAt V p (.slice a1 n1 c1) u' false := h.rd.keep (by rw [hg.block p (by omega) (fun e => by have := (h.row.lt e.symm).1; have := h.plt; omega), h3, Below.heap_alloc _ _ _ hpw]) (fun g e => by
    have hgl := (h.rd.own e).2
    rw [hg.block g (by omega) (fun e2 => h.dis g e e2.symm), h3, Below.heap_alloc _ _ _ hgl])
  refine ⟨h.by', h.cap, ?_, ?_, hFV.clear, ?_, (fun k hk => by cases hk), h.src, h.plt⟩
  · refine hrow.keep fun g e => Below.heap_setCell _ _ _ _ ?_
    have := (hrow.lt e).1
    have := h.plt
    show g ≠ p
    omega
  · refine FsV.app (h.frm.far fun g hg' => ?_) (FsV.two (by rw [List.length_drop]; omega) (by omega) ((hb1.drop (c := c1) (k := 2) h2 (by omega)).far fun g hg' => ?_))
    · obtain ⟨g1, g2, g3, g4, g5⟩ := hg'
      exact ⟨⟨hsize g g1, g2, g3, (by intro e; cases e), ht g g1 g5⟩, hold g g1 g2 g5⟩
    · have ho := h.rd.own hg'
      refine ⟨⟨hsize g ho.2, by omega, ?_, (by intro e; cases e), ht g ho.2 (fun e => h.dis g hg' e.symm)⟩, hold g ho.2 (by omega) (fun e => h.dis g hg' e.symm)⟩
      rcases h.fed.nxt with e | e | ⟨b, e, hb⟩
      · rw [hg'] at e; cases e
      · left; rw [← e, hg']
      · right; rw [hg'] at e; cases e; exact hb
  · have f1 : Fed w w3 p v (.slice a1 n1 c1) := by rw [h3]; exact h.fed.below (below_alloc _ _)
    exact ((f1.row hg (fun k e => (h.row.lt e).1)).set 0 _).none
theorem FdS.lost {w wr : World} {p : Nat} {v v' t : Value} {S : Nat → Prop} {u' r : List UInt8} {cs : List Value} {L : List (List UInt8)} {a : Option Addr} {c : Nat} (h : FdS w p v S wr v' u' false t cs L a c r) :
    FdS w p v S ((wr.setCell ⟨p, 1, none⟩ (.bool true)).setCell ⟨p, 0, none⟩ (.slice none 0 0)) (.slice none 0 0) [] true t cs L a c r := by
  have hold : ∀ g, g ≠ p → ((wr.setCell ⟨p, 1, none⟩ (.bool true)).setCell ⟨p, 0, none⟩ (.slice none 0 0)).heap[g]? = wr.heap[g]? := fun g g2 => by
    rw [Below.heap_setCell _ _ _ _ (show g ≠ p from g2), Below.heap_setCell _ _ _ _ (show g ≠ p from g2)]
  have hpt : ∀ g, t.ownBlock = some g → g ≠ p := fun g e => by have := (h.row.lt e).1; have := h.plt; omega
  refine ⟨h.by', h.cap, h.row.keep fun g e => hold g (hpt g e), h.frm.far fun g hg' => ?_, h.rd.amiss.clear, ((h.fed.set 1 _).set 0 _).none, (fun k hk => by cases hk), h.src, h.plt⟩
  obtain ⟨g1, g2, g3, g4, g5⟩ := hg'
  exact ⟨⟨by simpa [World.setCell] using g1, g2, g3, (by intro e; cases e), g5⟩, hold g g2⟩
end Go.Proofs.Ythoajnpdnagdbaa.Fr
