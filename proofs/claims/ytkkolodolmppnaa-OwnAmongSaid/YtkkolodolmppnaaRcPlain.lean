/-
  The plain arithmetic behind layer 2 (rect): no program here. It is proved what rectangles of integers are to each other; conditions are stated at each theorem.
-/
import Derived.Test.YtkkolodolmppnaaPtPlain
namespace Go.Proofs.Ytkkolodolmppnaa.Rc
open Go.Proofs.Ytkkolodolmppnaa.Pt

/-- The less and the greater of two. -/
def mn (a b : Int) : Int := if b < a then b else a
def mx (a b : Int) : Int := if a < b then b else a
theorem mn_cases (a b : Int) : (mn a b = a ∧ a ≤ b) ∨ (mn a b = b ∧ b < a) := by unfold mn; split <;> omega
theorem mx_cases (a b : Int) : (mx a b = b ∧ a < b) ∨ (mx a b = a ∧ b ≤ a) := by unfold mx; split <;> omega
theorem mn_comm (a b : Int) : mn a b = mn b a := by have := mn_cases a b; have := mn_cases b a; omega
theorem mx_comm (a b : Int) : mx a b = mx b a := by have := mx_cases a b; have := mx_cases b a; omega
theorem mn_min (a b : Int) : min a b = mn a b := by unfold mn; omega
theorem mx_max (a b : Int) : max a b = mx a b := by unfold mx; omega
theorem mx_neg (a b : Int) : -mn (-a) (-b) = mx a b := by have := mn_cases (-a) (-b); have := mx_cases a b; omega
theorem mn_inR {a b : Int} (ha : inR a = true) (hb : inR b = true) : inR (mn a b) = true := by rcases mn_cases a b with h | h <;> rw [h.1] <;> assumption
theorem mx_inR {a b : Int} (ha : inR a = true) (hb : inR b = true) : inR (mx a b) = true := by rcases mx_cases a b with h | h <;> rw [h.1] <;> assumption

/-- Are the sides in order? -/
def ordB (x1 y1 x2 y2 : Int) : Bool := decide (x1 ≤ x2) && decide (y1 ≤ y2)
theorem ordB_iff {x1 y1 x2 y2 : Int} : ordB x1 y1 x2 y2 = true ↔ x1 ≤ x2 ∧ y1 ≤ y2 := by unfold ordB; simp
theorem ordB_no {x1 y1 x2 y2 : Int} (h : ¬ (x1 ≤ x2 ∧ y1 ≤ y2)) : ordB x1 y1 x2 y2 = false := by rw [← Bool.not_eq_true, ordB_iff]; exact h
/-- A rectangle that may be. -/
def rmayB (x1 y1 x2 y2 : Int) : Bool := mayB x1 y1 && (mayB x2 y2 && ordB x1 y1 x2 y2)
theorem rmayB_iff {x1 y1 x2 y2 : Int} : rmayB x1 y1 x2 y2 = true ↔ mayB x1 y1 = true ∧ mayB x2 y2 = true ∧ ordB x1 y1 x2 y2 = true := by unfold rmayB; simp
theorem rmayB_bd {x1 y1 x2 y2 : Int} (h : rmayB x1 y1 x2 y2 = true) : -1073741824 ≤ x1 ∧ x1 ≤ x2 ∧ x2 ≤ 1073741824 ∧ -1073741824 ≤ y1 ∧ y1 ≤ y2 ∧ y2 ≤ 1073741824 := by
  obtain ⟨h1, h2, h3⟩ := rmayB_iff.1 h
  rw [mayB_iff, inR_iff, inR_iff] at h1 h2; rw [ordB_iff] at h3; omega
theorem rmayB_mk {x1 y1 x2 y2 : Int} (h : -1073741824 ≤ x1 ∧ x1 ≤ x2 ∧ x2 ≤ 1073741824 ∧ -1073741824 ≤ y1 ∧ y1 ≤ y2 ∧ y2 ≤ 1073741824) : rmayB x1 y1 x2 y2 = true := by
  rw [rmayB_iff, mayB_iff, mayB_iff, inR_iff, inR_iff, inR_iff, inR_iff, ordB_iff]; omega
/-- Is a point in a rectangle? -/
def inB (x1 y1 x2 y2 px py : Int) : Bool := decide (x1 ≤ px) && (decide (px ≤ x2) && (decide (y1 ≤ py) && decide (py ≤ y2)))
theorem inB_iff {x1 y1 x2 y2 px py : Int} : inB x1 y1 x2 y2 px py = true ↔ x1 ≤ px ∧ px ≤ x2 ∧ y1 ≤ py ∧ py ≤ y2 := by unfold inB; simp
theorem inB_no {x1 y1 x2 y2 px py : Int} (h : ¬ (x1 ≤ px ∧ px ≤ x2 ∧ y1 ≤ py ∧ py ≤ y2)) : inB x1 y1 x2 y2 px py = false := by rw [← Bool.not_eq_true, inB_iff]; exact h
/-- Does the first hold the second? -/
def holdsB (ax1 ay1 ax2 ay2 bx1 by1 bx2 by2 : Int) : Bool := inB ax1 ay1 ax2 ay2 bx1 by1 && inB ax1 ay1 ax2 ay2 bx2 by2
theorem holdsB_iff {ax1 ay1 ax2 ay2 bx1 by1 bx2 by2 : Int} : holdsB ax1 ay1 ax2 ay2 bx1 by1 bx2 by2 = true ↔ inB ax1 ay1 ax2 ay2 bx1 by1 = true ∧ inB ax1 ay1 ax2 ay2 bx2 by2 = true := by unfold holdsB; simp
/-- A rectangle's area. -/
def areaI (x1 y1 x2 y2 : Int) : Int := (x2 - x1) * (y2 - y1)
theorem areaI_bd {x1 y1 x2 y2 : Int} (h : rmayB x1 y1 x2 y2 = true) : 0 ≤ areaI x1 y1 x2 y2 ∧ areaI x1 y1 x2 y2 ≤ 4611686018427387904 := by
  have := rmayB_bd h
  exact ⟨Int.mul_nonneg (by omega) (by omega), (mul_bd (by omega) (by omega) (by omega) (by omega)).2⟩
/-- A rectangle's margin. -/
def marginI (x1 y1 x2 y2 : Int) : Int := x2 - x1 + y2 - y1
theorem marginI_eq (x1 y1 x2 y2 : Int) : marginI x1 y1 x2 y2 = x2 - x1 + (y2 - y1) := by unfold marginI; omega

section
variable {ax1 ay1 ax2 ay2 bx1 by1 bx2 by2 : Int}
/-- A join may be. -/
theorem join_may (ha : rmayB ax1 ay1 ax2 ay2 = true) (hb : rmayB bx1 by1 bx2 by2 = true) : rmayB (mn ax1 bx1) (mn ay1 by1) (mx ax2 bx2) (mx ay2 by2) = true := by
  have := rmayB_bd ha; have := rmayB_bd hb
  have := mn_cases ax1 bx1; have := mn_cases ay1 by1; have := mx_cases ax2 bx2; have := mx_cases ay2 by2
  exact rmayB_mk (by omega)
/-- A join holds both. -/
theorem join_holds1 (ha : rmayB ax1 ay1 ax2 ay2 = true) (hb : rmayB bx1 by1 bx2 by2 = true) : holdsB (mn ax1 bx1) (mn ay1 by1) (mx ax2 bx2) (mx ay2 by2) ax1 ay1 ax2 ay2 = true := by
  have := rmayB_bd ha; have := rmayB_bd hb
  have := mn_cases ax1 bx1; have := mn_cases ay1 by1; have := mx_cases ax2 bx2; have := mx_cases ay2 by2
  rw [holdsB_iff, inB_iff, inB_iff]; omega
theorem join_holds2 (ha : rmayB ax1 ay1 ax2 ay2 = true) (hb : rmayB bx1 by1 bx2 by2 = true) : holdsB (mn ax1 bx1) (mn ay1 by1) (mx ax2 bx2) (mx ay2 by2) bx1 by1 bx2 by2 = true := by
  have := rmayB_bd ha; have := rmayB_bd hb
  have := mn_cases ax1 bx1; have := mn_cases ay1 by1; have := mx_cases ax2 bx2; have := mx_cases ay2 by2
  rw [holdsB_iff, inB_iff, inB_iff]; omega
/-- Its area is no less. -/
theorem join_grows (ha : rmayB ax1 ay1 ax2 ay2 = true) (hb : rmayB bx1 by1 bx2 by2 = true) : areaI ax1 ay1 ax2 ay2 ≤ areaI (mn ax1 bx1) (mn ay1 by1) (mx ax2 bx2) (mx ay2 by2) := by
  have := rmayB_bd ha; have := rmayB_bd hb
  have := mn_cases ax1 bx1; have := mn_cases ay1 by1; have := mx_cases ax2 bx2; have := mx_cases ay2 by2
  exact Int.mul_le_mul (by omega) (by omega) (by omega) (by omega)
/-- A meet, where the sides are in order, may be, and is held by both. -/
theorem meet_may (ha : rmayB ax1 ay1 ax2 ay2 = true) (hb : rmayB bx1 by1 bx2 by2 = true) (ho : ordB (mx ax1 bx1) (mx ay1 by1) (mn ax2 bx2) (mn ay2 by2) = true) : rmayB (mx ax1 bx1) (mx ay1 by1) (mn ax2 bx2) (mn ay2 by2) = true := by
  have := rmayB_bd ha; have := rmayB_bd hb; rw [ordB_iff] at ho
  have := mx_cases ax1 bx1; have := mx_cases ay1 by1; have := mn_cases ax2 bx2; have := mn_cases ay2 by2
  exact rmayB_mk (by omega)
theorem meet_held1 (ha : rmayB ax1 ay1 ax2 ay2 = true) (hb : rmayB bx1 by1 bx2 by2 = true) (ho : ordB (mx ax1 bx1) (mx ay1 by1) (mn ax2 bx2) (mn ay2 by2) = true) : holdsB ax1 ay1 ax2 ay2 (mx ax1 bx1) (mx ay1 by1) (mn ax2 bx2) (mn ay2 by2) = true := by
  have := rmayB_bd ha; have := rmayB_bd hb; rw [ordB_iff] at ho
  have := mx_cases ax1 bx1; have := mx_cases ay1 by1; have := mn_cases ax2 bx2; have := mn_cases ay2 by2
  rw [holdsB_iff, inB_iff, inB_iff]; omega
theorem meet_held2 (ha : rmayB ax1 ay1 ax2 ay2 = true) (hb : rmayB bx1 by1 bx2 by2 = true) (ho : ordB (mx ax1 bx1) (mx ay1 by1) (mn ax2 bx2) (mn ay2 by2) = true) : holdsB bx1 by1 bx2 by2 (mx ax1 bx1) (mx ay1 by1) (mn ax2 bx2) (mn ay2 by2) = true := by
  have := rmayB_bd ha; have := rmayB_bd hb; rw [ordB_iff] at ho
  have := mx_cases ax1 bx1; have := mx_cases ay1 by1; have := mn_cases ax2 bx2; have := mn_cases ay2 by2
  rw [holdsB_iff, inB_iff, inB_iff]; omega
/-- What is in both is in the meet, and in the join. -/
theorem in_meet (px py : Int) : (inB ax1 ay1 ax2 ay2 px py && inB bx1 by1 bx2 by2 px py) = inB (mx ax1 bx1) (mx ay1 by1) (mn ax2 bx2) (mn ay2 by2) px py := by
  have := mx_cases ax1 bx1; have := mx_cases ay1 by1; have := mn_cases ax2 bx2; have := mn_cases ay2 by2
  rw [Bool.eq_iff_iff, Bool.and_eq_true, inB_iff, inB_iff, inB_iff]; omega
theorem in_order {x1 y1 x2 y2 px py : Int} (h : ordB x1 y1 x2 y2 = false) : inB x1 y1 x2 y2 px py = false := by
  apply inB_no; intro hc
  have : ordB x1 y1 x2 y2 = true := ordB_iff.2 (by omega)
  rw [h] at this; cases this
theorem in_join {px py : Int} (h : inB ax1 ay1 ax2 ay2 px py = true) (h' : inB bx1 by1 bx2 by2 px py = true) : inB (mn ax1 bx1) (mn ay1 by1) (mx ax2 bx2) (mx ay2 by2) px py = true := by
  have := mn_cases ax1 bx1; have := mn_cases ay1 by1; have := mx_cases ax2 bx2; have := mx_cases ay2 by2
  rw [inB_iff] at h h' ⊢; omega
end
end Go.Proofs.Ytkkolodolmppnaa.Rc
