/-
  A slice of points in memory, and a rectangle of the call's own in memory: what is known of them stays known behind whatever only makes memory. No program here.
-/
import Derived.Test.YtiggjaodfmelpaaKeepR
namespace Go.Proofs.Ytiggjaodfmelpaa.Pts
open Go.RowKit

/-- A slice that holds these points, in blocks below B. -/
def PtsAt (w : World) (B : Nat) (A : Option Addr) (l : List (Int × Int)) : Prop :=
  l ≠ [] → ∃ b off, A = some ⟨b, off, none⟩ ∧ b < B ∧ ∀ (k : Nat) (h : k < l.length), w.cell? ⟨b, off + k * 2, none⟩ = some (.int .i64 l[k].1) ∧ w.cell? ⟨b, off + k * 2 + 1, none⟩ = some (.int .i64 l[k].2)
theorem PtsAt.later {w w' : World} {B : Nat} {A : Option Addr} {l : List (Int × Int)} (h : PtsAt w B A l) (hb : Below B w w') : PtsAt w' B A l := by
  intro hl
  obtain ⟨b, off, e, hB, hc⟩ := h hl
  exact ⟨b, off, e, hB, fun k hk => ⟨(hb.cell (p := ⟨b, off + k * 2, none⟩) hB).trans (hc k hk).1, (hb.cell (p := ⟨b, off + k * 2 + 1, none⟩) hB).trans (hc k hk).2⟩⟩
theorem PtsAt.wide {w : World} {B B' : Nat} {A : Option Addr} {l : List (Int × Int)} (h : PtsAt w B A l) (hB : B ≤ B') : PtsAt w B' A l := by
  intro hl
  obtain ⟨b, off, e, hb, hc⟩ := h hl
  exact ⟨b, off, e, by omega, hc⟩

/-- A rectangle in block g, that may be written. -/
def Rc4 (W : World) (g : Nat) (x1 y1 x2 y2 : Int) : Prop :=
  W.cell? ⟨g, 0, none⟩ = some (.int .i64 x1) ∧ W.cell? ⟨g, 1, none⟩ = some (.int .i64 y1) ∧ W.cell? ⟨g, 2, none⟩ = some (.int .i64 x2) ∧ W.cell? ⟨g, 3, none⟩ = some (.int .i64 y2) ∧
  W.frozen? ⟨g, 0, none⟩ = false ∧ W.frozen? ⟨g, 1, none⟩ = false ∧ W.frozen? ⟨g, 2, none⟩ = false ∧ W.frozen? ⟨g, 3, none⟩ = false
section
variable {W w1 : World} {g : Nat} {x1 y1 x2 y2 : Int}
theorem Rc4.lt (h : Rc4 W g x1 y1 x2 y2) : g < W.heap.size := World.block_lt_of_cell? _ ⟨g, 0, none⟩ h.1
theorem Rc4.below {B : Nat} (h : Rc4 W g x1 y1 x2 y2) (hb : Below B W w1) (hg : g < B) : Rc4 w1 g x1 y1 x2 y2 := by
  obtain ⟨a, b, c, d, e, f, i, j⟩ := h
  have hc := fun o => hb.cell (p := ⟨g, o, none⟩) hg
  have hf := fun o => hb.frozen (p := ⟨g, o, none⟩) hg
  exact ⟨(hc 0).trans a, (hc 1).trans b, (hc 2).trans c, (hc 3).trans d, (hf 0).trans e, (hf 1).trans f, (hf 2).trans i, (hf 3).trans j⟩
theorem Rc4.later (h : Rc4 W g x1 y1 x2 y2) (hb : Below W.heap.size W w1) : Rc4 w1 g x1 y1 x2 y2 := h.below hb h.lt
theorem Rc4.alloc (h : Rc4 W g x1 y1 x2 y2) (o : Obj) : Rc4 (W.alloc o) g x1 y1 x2 y2 := h.later ((Below.refl _ _).alloc (Nat.le_refl _) _)
theorem Rc4.drew (h : Rc4 W g x1 y1 x2 y2) : Rc4 W.drew g x1 y1 x2 y2 := h
theorem Rc4.new (W : World) (x1 y1 x2 y2 : Int) (t : TypeId) : Rc4 (W.alloc (.cells #[.int .i64 x1, .int .i64 y1, .int .i64 x2, .int .i64 y2] t)) W.heap.size x1 y1 x2 y2 := by
  refine ⟨?_, ?_, ?_, ?_, ?_, ?_, ?_, ?_⟩ <;> simp [go_sem]
theorem below_far {p : Addr} {v : Value} (W : World) : Below p.block W (W.setCell p v) := (Below.refl _ _).setCell (Nat.le_refl _) _
theorem cell_far (W : World) {p q : Addr} (v : Value) (h : p.block ≠ q.block) : (W.setCell p v).cell? q = W.cell? q := World.cell?_setCell_other W p q v (fun e => h (by rw [e]))
theorem frozen_set (W : World) (p q : Addr) (v : Value) : (W.setCell p v).frozen? q = W.frozen? q := by simp [go_sem]
theorem Rc4.far (h : Rc4 W g x1 y1 x2 y2) {p : Addr} (v : Value) (hp : p.block ≠ g) : Rc4 (W.setCell p v) g x1 y1 x2 y2 := by
  obtain ⟨a, b, c, d, e, f, i, j⟩ := h
  exact ⟨(cell_far W v hp).trans a, (cell_far W v hp).trans b, (cell_far W v hp).trans c, (cell_far W v hp).trans d, (frozen_set ..).trans e, (frozen_set ..).trans f, (frozen_set ..).trans i, (frozen_set ..).trans j⟩
/-- All four written. -/
theorem Rc4.set (h : Rc4 W g x1 y1 x2 y2) (a b c d : Int) :
    Rc4 ((((W.setCell ⟨g, 0, none⟩ (.int .i64 a)).setCell ⟨g, 1, none⟩ (.int .i64 b)).setCell ⟨g, 2, none⟩ (.int .i64 c)).setCell ⟨g, 3, none⟩ (.int .i64 d)) g a b c d := by
  obtain ⟨h0, h1, h2, h3, f0, f1, f2, f3⟩ := h
  refine ⟨?_, ?_, ?_, ?_, ?_, ?_, ?_, ?_⟩ <;> simp [go_sem, *]
end
end Go.Proofs.Ytiggjaodfmelpaa.Pts
