/-
  Plain facts on cells: shifts that may be, how many columns there are, a column's first and last coordinate. No program here.
-/
import Derived.Test.YtkkolodolmppnaaMoPlain
import Derived.Test.YtkkolodolmppnaaRcPlain
namespace Go.Proofs.Ytkkolodolmppnaa.Mo
open Go.Proofs.Ytkkolodolmppnaa.Pt Go.Proofs.Ytkkolodolmppnaa.Rc

/-- May a shift be? -/
def shB (s : Int) : Bool := decide (24 ≤ s) && decide (s ≤ 31)
theorem shB_iff {s : Int} : shB s = true ↔ 24 ≤ s ∧ s ≤ 31 := by simp [shB]
theorem shB_nat {s : Int} (h : shB s = true) : ∃ k : Nat, s = k ∧ 24 ≤ k ∧ k ≤ 31 := by
  obtain ⟨h1, h2⟩ := shB_iff.1 h
  exact ⟨s.toNat, by omega, by omega, by omega⟩
theorem shB_of {k : Nat} (h1 : 24 ≤ k) (h2 : k ≤ 31) : shB k = true := shB_iff.2 (by omega)
/-- How many columns there are; none, if the shift may not be. -/
def sdI (s : Int) : Int := if shB s then sideI s.toNat else 0
theorem sdI_no {s : Int} (h : shB s = false) : sdI s = 0 := by unfold sdI; rw [h]; rfl
theorem sdI_yes {k : Nat} (h1 : 24 ≤ k) (h2 : k ≤ 31) : sdI k = sideI k := by unfold sdI; rw [shB_of h1 h2]; rfl
/-- Is a column one of so many? -/
def belB (n m : Int) : Bool := decide (0 ≤ n) && decide (n < m)
theorem belB_iff {n m : Int} : belB n m = true ↔ 0 ≤ n ∧ n < m := by simp [belB]
theorem belB_zero (n : Int) : belB n 0 = false := by
  cases h : belB n 0
  · rfl
  · have := belB_iff.1 h; omega
/-- A column's first and last coordinate. -/
def firI (k : Nat) (n : Int) : Int := n * 2 ^ k - 1073741824
def lasI (k : Nat) (n : Int) : Int := mn (firI k n + 2 ^ k - 1) 1073741824
theorem pow_bd {k : Nat} (h1 : 24 ≤ k) (h2 : k ≤ 31) : (16777216 : Int) ≤ 2 ^ k ∧ (2 : Int) ^ k ≤ 2147483648 := by
  rcases (show k = 24 ∨ k = 25 ∨ k = 26 ∨ k = 27 ∨ k = 28 ∨ k = 29 ∨ k = 30 ∨ k = 31 by omega) with rfl | rfl | rfl | rfl | rfl | rfl | rfl | rfl <;> decide
theorem sideI_bd {k : Nat} (h1 : 24 ≤ k) (h2 : k ≤ 31) : (2 : Int) ≤ sideI k ∧ sideI k ≤ 129 := by
  rcases (show k = 24 ∨ k = 25 ∨ k = 26 ∨ k = 27 ∨ k = 28 ∨ k = 29 ∨ k = 30 ∨ k = 31 by omega) with rfl | rfl | rfl | rfl | rfl | rfl | rfl | rfl <;> decide
theorem col_bd {k : Nat} (h2 : k ≤ 31) {n : Int} (h3 : 0 ≤ n) (h4 : n < sideI k) : 0 ≤ n * 2 ^ k ∧ n * 2 ^ k ≤ 2147483648 := by
  have e : (2 : Int) ^ (31 - k) * 2 ^ k = 2147483648 := by rw [← Int.pow_add, Nat.sub_add_cancel h2]; rfl
  unfold sideI at h4
  have := two_pos k
  exact ⟨Int.mul_nonneg h3 (by omega), by rw [← e]; exact Int.mul_le_mul_of_nonneg_right (by omega) (by omega)⟩
/-- A point lies in its cell's rectangle. -/
theorem in_span {k : Nat} {n : Int} (h : n ≤ 1073741824) : firI k (colI k n) ≤ n ∧ n ≤ lasI k (colI k n) := by
  have h1 := colI_lo k n
  have h2 := colI_hi k n
  rw [Int.add_mul, Int.one_mul] at h2
  unfold lasI firI
  have := mn_cases (colI k n * 2 ^ k - 1073741824 + 2 ^ k - 1) 1073741824
  omega
theorem in_box {k : Nat} {x y : Int} (h : mayB x y = true) : inB (firI k (colI k x)) (firI k (colI k y)) (lasI k (colI k x)) (lasI k (colI k y)) x y = true := by
  obtain ⟨h1, h2⟩ := mayB_iff.1 h
  have g1 := in_span (k := k) (inR_iff.1 h1).2
  have g2 := in_span (k := k) (inR_iff.1 h2).2
  exact inB_iff.2 (by omega)
theorem col_bel {k : Nat} (h2 : k ≤ 31) {x y : Int} (h : mayB x y = true) : belB (colI k x) (sideI k) = true ∧ belB (colI k y) (sideI k) = true := by
  obtain ⟨g1, g2⟩ := mayB_iff.1 h
  have b1 := inR_iff.1 g1
  have b2 := inR_iff.1 g2
  exact ⟨belB_iff.2 ⟨colI_nonneg b1.1, colI_lt h2 b1.2⟩, belB_iff.2 ⟨colI_nonneg b2.1, colI_lt h2 b2.2⟩⟩
end Go.Proofs.Ytkkolodolmppnaa.Mo
