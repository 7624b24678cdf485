/-
  Blocks of a call's own beside a reader's. No function of the program here.
-/
import Derived.Test.YtnnoampmcghnaaaWiRdN
import Derived.Great.BuildSlice
import Derived.Outline
namespace Go.Proofs.Ytnnoampmcghnaaa.Wi
open Go.RowKit Go.Proofs.Ytnnoampmcghnaaa.Fl
set_option linter.unusedVariables false
set_option linter.unusedSimpArgs false

def Bq (W : World) (q : Nat) (t : TypeId) (cs : Array Value) : Prop := W.heap[q]? = some (.cells cs t (0, 0))
theorem Bq.lt {W : World} {q : Nat} {t : TypeId} {cs : Array Value} (h : Bq W q t cs) : q < W.heap.size := (Array.getElem?_eq_some_iff.1 h).1
theorem Bq.gr {W V : World} {q p : Nat} {t : TypeId} {cs : Array Value} (h : Bq W q t cs) (hg : W.grownBy V (some p)) (hne : q ≠ p) : Bq V q t cs := (hg.block q h.lt (by simpa using hne)).trans h
theorem Bq.later {W V : World} {q : Nat} {t : TypeId} {cs : Array Value} (h : Bq W q t cs) (hb : Below W.heap.size W V) : Bq V q t cs := (hb.block q h.lt).trans h
theorem Bq.new (W : World) (t : TypeId) (cs : Array Value) : Bq (W.alloc (.cells cs t)) W.heap.size t cs := heap_alloc_new W _
theorem Bq.alloc {W : World} {q : Nat} {t : TypeId} {cs : Array Value} (h : Bq W q t cs) (o : Obj) : Bq (W.alloc o) q t cs := (Below.heap_alloc _ _ _ h.lt).trans h
theorem Bq.set {W : World} {q : Nat} {t : TypeId} {cs : Array Value} (h : Bq W q t cs) (j : Nat) (v : Value) : Bq (W.setCell ⟨q, j, none⟩ v) q t (cs.setIfInBounds j v) := heap_setCell_same W q j _ _ v h
theorem Bq.setO {W : World} {q r : Nat} {t : TypeId} {cs : Array Value} (h : Bq W q t cs) (hne : q ≠ r) (j : Nat) (v : Value) : Bq (W.setCell ⟨r, j, none⟩ v) q t cs := (Below.heap_setCell _ _ _ _ hne).trans h
theorem Bq.row {W : World} {q : Nat} {t : TypeId} {cs : Array Value} (h : Bq W q t cs) (ds : Array Value) : Bq (W.setRow q ds) q t ds := setRow_heap W q cs ds _ _ h
theorem Bq.rowO {W : World} {q r : Nat} {t : TypeId} {cs : Array Value} (h : Bq W q t cs) (hne : q ≠ r) (ds : Array Value) : Bq (W.setRow r ds) q t cs := (setRow_other W r q ds hne).trans h
theorem Bq.fr {W : World} {q : Nat} {t : TypeId} {cs : Array Value} (h : Bq W q t cs) : ∀ o, W.frozen? ⟨q, o, none⟩ = false := by
  intro o
  unfold Bq at h
  simp [World.frozen?, h]
theorem gr_al {w V : World} {r : Option Nat} (h : w.grownBy V r) (o : Obj) : w.grownBy (V.alloc o) r := h.trans (World.grownBy_alloc V o r)
theorem gr_new {w V : World} {r : Option Nat} {q : Nat} (h : w.grownBy V r) (hq : w.heap.size ≤ q) (j : Nat) (v : Value) : w.grownBy (V.setCell ⟨q, j, none⟩ v) r :=
  ⟨h.os, h.tape, h.output, by have := h.size; simpa [World.setCell] using this, fun k hk hne => (Below.heap_setCell _ _ _ _ (show k ≠ q by omega)).trans (h.block k hk hne)⟩
theorem gr_row {w V : World} {r : Option Nat} {q : Nat} (h : w.grownBy V r) (hq : w.heap.size ≤ q) (cs : Array Value) : w.grownBy (V.setRow q cs) r :=
  ⟨h.os, h.tape, h.output, by have := h.size; simpa using this, fun k hk hne => (setRow_other V q k cs (by omega)).trans (h.block k hk hne)⟩
theorem Bq.c3 {W : World} {b : Nat} {t : TypeId} {x0 x1 x2 : Value} (h : Bq W b t #[x0, x1, x2]) : W.cell? ⟨b, 0, none⟩ = some x0 ∧ W.cell? ⟨b, 1, none⟩ = some x1 ∧ W.cell? ⟨b, 2, none⟩ = some x2 := by
  unfold Bq at h
  refine ⟨?_, ?_, ?_⟩ <;> simp [World.cell?, h]
theorem Bq.c4 {W : World} {b : Nat} {t : TypeId} {x0 x1 x2 x3 : Value} (h : Bq W b t #[x0, x1, x2, x3]) : W.cell? ⟨b, 0, none⟩ = some x0 ∧ W.cell? ⟨b, 1, none⟩ = some x1 ∧ W.cell? ⟨b, 2, none⟩ = some x2 ∧ W.cell? ⟨b, 3, none⟩ = some x3 := by
  unfold Bq at h
  refine ⟨?_, ?_, ?_, ?_⟩ <;> simp [World.cell?, h]
theorem Bq.c5 {W : World} {b : Nat} {t : TypeId} {x0 x1 x2 x3 x4 : Value} (h : Bq W b t #[x0, x1, x2, x3, x4]) : W.cell? ⟨b, 0, none⟩ = some x0 ∧ W.cell? ⟨b, 1, none⟩ = some x1 ∧ W.cell? ⟨b, 2, none⟩ = some x2 ∧ W.cell? ⟨b, 3, none⟩ = some x3 ∧ W.cell? ⟨b, 4, none⟩ = some x4 := by
  unfold Bq at h
  refine ⟨?_, ?_, ?_, ?_, ?_⟩ <;> simp [World.cell?, h]
theorem Bq.c14 {W : World} {b : Nat} {t : TypeId} {x0 x1 x2 x3 x4 x5 x6 x7 x8 x9 x10 x11 x12 x13 : Value} (h : Bq W b t #[x0, x1, x2, x3, x4, x5, x6, x7, x8, x9, x10, x11, x12, x13]) : W.cell? ⟨b, 0, none⟩ = some x0 ∧ W.cell? ⟨b, 1, none⟩ = some x1 ∧ W.cell? ⟨b, 2, none⟩ = some x2 ∧ W.cell? ⟨b, 3, none⟩ = some x3 ∧ W.cell? ⟨b, 4, none⟩ = some x4 ∧ W.cell? ⟨b, 5, none⟩ = some x5 ∧ W.cell? ⟨b, 6, none⟩ = some x6 ∧ W.cell? ⟨b, 7, none⟩ = some x7 ∧ W.cell? ⟨b, 8, none⟩ = some x8 ∧ W.cell? ⟨b, 9, none⟩ = some x9 ∧ W.cell? ⟨b, 10, none⟩ = some x10 ∧ W.cell? ⟨b, 11, none⟩ = some x11 ∧ W.cell? ⟨b, 12, none⟩ = some x12 ∧ W.cell? ⟨b, 13, none⟩ = some x13 := by
  unfold Bq at h
  refine ⟨?_, ?_, ?_, ?_, ?_, ?_, ?_, ?_, ?_, ?_, ?_, ?_, ?_, ?_⟩ <;> simp [World.cell?, h]

theorem bs_of2 (l : List UInt8) : ∃ s : ByteArray, bs l = .string s ∧ s.data.toList = l := ⟨⟨l.toArray⟩, rfl, rfl⟩
end Go.Proofs.Ytnnoampmcghnaaa.Wi
