/-
  New blocks of five and six cells, beside Keep and KeepR. No program here.
-/
import Derived.Test.YtiggjaodfmelpaaKeepR
namespace Go.Proofs.Ytiggjaodfmelpaa.Kp
open Go.RowKit

variable {w W w1 : World} {N : Nat}
theorem ad10 (h : N ≤ W.heap.size ∧ Below N w W) (b : Nat) (e : W.heap.size = b) (x : Value) (t : TypeId) :
    (W.alloc (.cells #[x] t)).cell? ⟨b, 0, none⟩ = some x ∧ N ≤ (W.alloc (.cells #[x] t)).heap.size ∧ Below N w (W.alloc (.cells #[x] t)) := by
  subst e
  exact ⟨by simp [go_sem], ends (behind ..) h⟩
theorem ad30 (h : N ≤ W.heap.size ∧ Below N w W) (b : Nat) (e : W.heap.size = b) (x y z : Value) (t : TypeId) :
    (W.alloc (.cells #[x, y, z] t)).cell? ⟨b, 0, none⟩ = some x ∧ (W.alloc (.cells #[x, y, z] t)).cell? ⟨b, 1, none⟩ = some y ∧ (W.alloc (.cells #[x, y, z] t)).cell? ⟨b, 2, none⟩ = some z ∧ N ≤ (W.alloc (.cells #[x, y, z] t)).heap.size ∧ Below N w (W.alloc (.cells #[x, y, z] t)) := by
  subst e
  exact ⟨by simp [go_sem], by simp [go_sem], by simp [go_sem], ends (behind ..) h⟩
theorem ad50 (h : N ≤ W.heap.size ∧ Below N w W) (b : Nat) (e : W.heap.size = b) (x y z u s : Value) (t : TypeId) :
    (W.alloc (.cells #[x, y, z, u, s] t)).cell? ⟨b, 0, none⟩ = some x ∧ (W.alloc (.cells #[x, y, z, u, s] t)).cell? ⟨b, 1, none⟩ = some y ∧ (W.alloc (.cells #[x, y, z, u, s] t)).cell? ⟨b, 2, none⟩ = some z ∧ (W.alloc (.cells #[x, y, z, u, s] t)).cell? ⟨b, 3, none⟩ = some u ∧ (W.alloc (.cells #[x, y, z, u, s] t)).cell? ⟨b, 4, none⟩ = some s ∧ N ≤ (W.alloc (.cells #[x, y, z, u, s] t)).heap.size ∧ Below N w (W.alloc (.cells #[x, y, z, u, s] t)) := by
  subst e
  exact ⟨by simp [go_sem], by simp [go_sem], by simp [go_sem], by simp [go_sem], by simp [go_sem], ends (behind ..) h⟩
/-- A block below is not frozen: so it stays. -/
theorem soft {W w1 : World} {b : Nat} (hb : Below W.heap.size W w1) (hlt : b < W.heap.size) (h : ∀ o, W.frozen? ⟨b, o, none⟩ = false) : ∀ o, w1.frozen? ⟨b, o, none⟩ = false :=
  fun o => (World.frozen?_of_block (w := W) (a := ⟨b, o, none⟩) (hb.block b hlt)).trans (h o)
theorem newsoft (W : World) (b : Nat) (e : W.heap.size = b) (vs : Array Value) (t : TypeId) : ∀ o, (W.alloc (.cells vs t)).frozen? ⟨b, o, none⟩ = false := by
  subst e
  intro o
  simp [go_sem]
end Go.Proofs.Ytiggjaodfmelpaa.Kp
