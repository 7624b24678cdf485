/-
  Cells that are known stay known behind whatever only makes memory: lists of two to eight cells, at any addresses. No program here.
-/
import Derived.WalkKit
import Derived.WalkSpells
import Derived.Below
import Derived.Lib.Hide
namespace Go.Proofs.Ytjdeoneefgoaaaa.Kp
open Go.RowKit

variable {w W w1 : World} {N : Nat} {a0 a1 a2 a3 a4 a5 a6 a7 : Addr} {v0 v1 v2 v3 v4 v5 v6 v7 : Value}

theorem ends (hb : Below W.heap.size W w1) (h : N ≤ W.heap.size ∧ Below N w W) : N ≤ w1.heap.size ∧ Below N w w1 :=
  ⟨Nat.le_trans h.1 hb.size, h.2.trans (hb.mono h.1)⟩
theorem one {P P' : Prop} (hb : Below W.heap.size W w1) (f : P → P') (h : W.cell? a0 = some v0 ∧ P) : w1.cell? a0 = some v0 ∧ P' := ⟨cell_later hb h.1, f h.2⟩
theorem two {P P' : Prop} (hb : Below W.heap.size W w1) (f : P → P') (h : W.cell? a0 = some v0 ∧ W.cell? a1 = some v1 ∧ P) : w1.cell? a0 = some v0 ∧ w1.cell? a1 = some v1 ∧ P' := one hb (one hb f) h

theorem keep2 (hb : Below W.heap.size W w1) (h : W.cell? a0 = some v0 ∧ W.cell? a1 = some v1 ∧ N ≤ W.heap.size ∧ Below N w W) :
    w1.cell? a0 = some v0 ∧ w1.cell? a1 = some v1 ∧ N ≤ w1.heap.size ∧ Below N w w1 := two hb (ends hb) h
theorem keep4 (hb : Below W.heap.size W w1) (h : W.cell? a0 = some v0 ∧ W.cell? a1 = some v1 ∧ W.cell? a2 = some v2 ∧ W.cell? a3 = some v3 ∧ N ≤ W.heap.size ∧ Below N w W) :
    w1.cell? a0 = some v0 ∧ w1.cell? a1 = some v1 ∧ w1.cell? a2 = some v2 ∧ w1.cell? a3 = some v3 ∧ N ≤ w1.heap.size ∧ Below N w w1 := two hb (two hb (ends hb)) h
theorem keep6 (hb : Below W.heap.size W w1) (h : W.cell? a0 = some v0 ∧ W.cell? a1 = some v1 ∧ W.cell? a2 = some v2 ∧ W.cell? a3 = some v3 ∧ W.cell? a4 = some v4 ∧ W.cell? a5 = some v5 ∧ N ≤ W.heap.size ∧ Below N w W) :
    w1.cell? a0 = some v0 ∧ w1.cell? a1 = some v1 ∧ w1.cell? a2 = some v2 ∧ w1.cell? a3 = some v3 ∧ w1.cell? a4 = some v4 ∧ w1.cell? a5 = some v5 ∧ N ≤ w1.heap.size ∧ Below N w w1 := two hb (two hb (two hb (ends hb))) h
theorem keep8 (hb : Below W.heap.size W w1) (h : W.cell? a0 = some v0 ∧ W.cell? a1 = some v1 ∧ W.cell? a2 = some v2 ∧ W.cell? a3 = some v3 ∧ W.cell? a4 = some v4 ∧ W.cell? a5 = some v5 ∧ W.cell? a6 = some v6 ∧ W.cell? a7 = some v7 ∧ N ≤ W.heap.size ∧ Below N w W) :
    w1.cell? a0 = some v0 ∧ w1.cell? a1 = some v1 ∧ w1.cell? a2 = some v2 ∧ w1.cell? a3 = some v3 ∧ w1.cell? a4 = some v4 ∧ w1.cell? a5 = some v5 ∧ w1.cell? a6 = some v6 ∧ w1.cell? a7 = some v7 ∧ N ≤ w1.heap.size ∧ Below N w w1 := two hb (two hb (two hb (two hb (ends hb)))) h

/-- A new block of two cells; its number is b. -/
theorem fresh (W : World) (b : Nat) (e : W.heap.size = b) (x y : Value) (t : TypeId) : (W.alloc (.cells #[x, y] t)).cell? ⟨b, 0, none⟩ = some x ∧ (W.alloc (.cells #[x, y] t)).cell? ⟨b, 1, none⟩ = some y := by
  subst e; constructor <;> simp [go_sem]
theorem behind (W : World) (o : Obj) : Below W.heap.size W (W.alloc o) := (Below.refl _ _).alloc (Nat.le_refl _) _
theorem add0 (h : N ≤ W.heap.size ∧ Below N w W) (b : Nat) (e : W.heap.size = b) (x y : Value) (t : TypeId) :
    (W.alloc (.cells #[x, y] t)).cell? ⟨b, 0, none⟩ = some x ∧ (W.alloc (.cells #[x, y] t)).cell? ⟨b, 1, none⟩ = some y ∧ N ≤ (W.alloc (.cells #[x, y] t)).heap.size ∧ Below N w (W.alloc (.cells #[x, y] t)) :=
  ⟨(fresh W b e x y t).1, (fresh W b e x y t).2, ends (behind ..) h⟩
theorem add2 (h : W.cell? a0 = some v0 ∧ W.cell? a1 = some v1 ∧ N ≤ W.heap.size ∧ Below N w W) (b : Nat) (e : W.heap.size = b) (x y : Value) (t : TypeId) :
    (W.alloc (.cells #[x, y] t)).cell? a0 = some v0 ∧ (W.alloc (.cells #[x, y] t)).cell? a1 = some v1 ∧ (W.alloc (.cells #[x, y] t)).cell? ⟨b, 0, none⟩ = some x ∧ (W.alloc (.cells #[x, y] t)).cell? ⟨b, 1, none⟩ = some y
      ∧ N ≤ (W.alloc (.cells #[x, y] t)).heap.size ∧ Below N w (W.alloc (.cells #[x, y] t)) := two (behind ..) (fun h => add0 h b e x y t) h
theorem add4 (h : W.cell? a0 = some v0 ∧ W.cell? a1 = some v1 ∧ W.cell? a2 = some v2 ∧ W.cell? a3 = some v3 ∧ N ≤ W.heap.size ∧ Below N w W) (b : Nat) (e : W.heap.size = b) (x y : Value) (t : TypeId) :
    (W.alloc (.cells #[x, y] t)).cell? a0 = some v0 ∧ (W.alloc (.cells #[x, y] t)).cell? a1 = some v1 ∧ (W.alloc (.cells #[x, y] t)).cell? a2 = some v2 ∧ (W.alloc (.cells #[x, y] t)).cell? a3 = some v3
      ∧ (W.alloc (.cells #[x, y] t)).cell? ⟨b, 0, none⟩ = some x ∧ (W.alloc (.cells #[x, y] t)).cell? ⟨b, 1, none⟩ = some y
      ∧ N ≤ (W.alloc (.cells #[x, y] t)).heap.size ∧ Below N w (W.alloc (.cells #[x, y] t)) := two (behind ..) (two (behind ..) (fun h => add0 h b e x y t)) h
theorem add6 (h : W.cell? a0 = some v0 ∧ W.cell? a1 = some v1 ∧ W.cell? a2 = some v2 ∧ W.cell? a3 = some v3 ∧ W.cell? a4 = some v4 ∧ W.cell? a5 = some v5 ∧ N ≤ W.heap.size ∧ Below N w W) (b : Nat) (e : W.heap.size = b) (x y : Value) (t : TypeId) :
    (W.alloc (.cells #[x, y] t)).cell? a0 = some v0 ∧ (W.alloc (.cells #[x, y] t)).cell? a1 = some v1 ∧ (W.alloc (.cells #[x, y] t)).cell? a2 = some v2 ∧ (W.alloc (.cells #[x, y] t)).cell? a3 = some v3 ∧ (W.alloc (.cells #[x, y] t)).cell? a4 = some v4 ∧ (W.alloc (.cells #[x, y] t)).cell? a5 = some v5
      ∧ (W.alloc (.cells #[x, y] t)).cell? ⟨b, 0, none⟩ = some x ∧ (W.alloc (.cells #[x, y] t)).cell? ⟨b, 1, none⟩ = some y
      ∧ N ≤ (W.alloc (.cells #[x, y] t)).heap.size ∧ Below N w (W.alloc (.cells #[x, y] t)) := two (behind ..) (two (behind ..) (two (behind ..) (fun h => add0 h b e x y t))) h

theorem end2 {p0 p1 p2 : Prop} (h : p0 ∧ p1 ∧ p2 ∧ Below N w W) : Below N w W := h.2.2.2
theorem end4 {p0 p1 p2 p3 p4 : Prop} (h : p0 ∧ p1 ∧ p2 ∧ p3 ∧ p4 ∧ Below N w W) : Below N w W := h.2.2.2.2.2
theorem end6 {p0 p1 p2 p3 p4 p5 p6 : Prop} (h : p0 ∧ p1 ∧ p2 ∧ p3 ∧ p4 ∧ p5 ∧ p6 ∧ Below N w W) : Below N w W := h.2.2.2.2.2.2.2
theorem end8 {p0 p1 p2 p3 p4 p5 p6 p7 p8 : Prop} (h : p0 ∧ p1 ∧ p2 ∧ p3 ∧ p4 ∧ p5 ∧ p6 ∧ p7 ∧ p8 ∧ Below N w W) : Below N w W := h.2.2.2.2.2.2.2.2.2
end Go.Proofs.Ytjdeoneefgoaaaa.Kp
