/-
  The plain geometry behind layer 3 (poly), its third part: what is asked of a list's points one by one makes a simple polygon, and the other way round. No program here.
-/
/-
  The plain arithmetic behind layer 1 (point): no program here. It is proved what ranges, turns, segments and crossings of integers are to each other; conditions are stated at each theorem.
-/
namespace Go.Proofs.Ythakngphffoooaa.Pt

/-- A coordinate that may be. -/
def inR (n : Int) : Bool := decide (-1073741824 ≤ n) && decide (n ≤ 1073741824)
theorem inR_iff {n : Int} : inR n = true ↔ -1073741824 ≤ n ∧ n ≤ 1073741824 := by unfold inR; simp
/-- A point that may be. -/
def mayB (x y : Int) : Bool := inR x && inR y
theorem mayB_iff {x y : Int} : mayB x y = true ↔ inR x = true ∧ inR y = true := by unfold mayB; simp

/-- 1, 0 or -1: how two numbers stand to each other. -/
def sgn (p q : Int) : Int := if q < p then 1 else if p < q then -1 else 0
theorem sgn_gt {p q : Int} (h : q < p) : sgn p q = 1 := by unfold sgn; simp [h]
theorem sgn_lt {p q : Int} (h : p < q) : sgn p q = -1 := by unfold sgn; rw [if_neg (by omega), if_pos h]
theorem sgn_eq (p : Int) : sgn p p = 0 := by unfold sgn; simp
theorem sgn_cases (p q : Int) : sgn p q = 1 ∨ sgn p q = -1 ∨ sgn p q = 0 := by unfold sgn; split <;> (try split) <;> simp
theorem sgn_bd (p q : Int) : -1 ≤ sgn p q ∧ sgn p q ≤ 1 := by rcases sgn_cases p q with h | h | h <;> omega
theorem sgn_of_sub {p q r s : Int} (h : p - q = r - s) : sgn p q = sgn r s := by
  unfold sgn
  by_cases h1 : q < p
  · have h2 : s < r := by omega
    simp [h1, h2]
  · have h2 : ¬ s < r := by omega
    by_cases h3 : p < q
    · have h4 : r < s := by omega
      simp [h1, h2, h3, h4]
    · have h4 : ¬ r < s := by omega
      simp [h1, h2, h3, h4]
theorem sgn_of_neg {p q r s : Int} (h : p - q = s - r) : sgn p q = -sgn r s := by
  unfold sgn
  by_cases h1 : q < p
  · have h2 : r < s := by omega
    have h3 : ¬ s < r := by omega
    simp [h1, h2, h3]
  · have h2 : ¬ r < s := by omega
    by_cases h3 : p < q
    · have h4 : s < r := by omega
      simp [h1, h3, h4]
    · have h4 : ¬ s < r := by omega
      simp [h1, h2, h3, h4]

/-- How three points turn. -/
def turnI (ax ay bx b2 cx cy : Int) : Int := sgn ((bx - ax) * (cy - ay)) ((b2 - ay) * (cx - ax))
theorem turnI_bd (ax ay bx b2 cx cy : Int) : -1 ≤ turnI ax ay bx b2 cx cy ∧ turnI ax ay bx b2 cx cy ≤ 1 := sgn_bd _ _
theorem turnI_cases (ax ay bx b2 cx cy : Int) : turnI ax ay bx b2 cx cy = 1 ∨ turnI ax ay bx b2 cx cy = -1 ∨ turnI ax ay bx b2 cx cy = 0 := sgn_cases _ _

theorem mul_bd {x y : Int} (hx1 : -2147483648 ≤ x) (hx2 : x ≤ 2147483648) (hy1 : -2147483648 ≤ y) (hy2 : y ≤ 2147483648) : -4611686018427387904 ≤ x * y ∧ x * y ≤ 4611686018427387904 := by
  have h : (x * y).natAbs ≤ 2147483648 * 2147483648 := by
    rw [Int.natAbs_mul]
    exact Nat.mul_le_mul (by omega) (by omega)
  omega
/-- The two products of a turn of points that may be are within 2^62. -/
theorem prod_bd {p q r s : Int} (hp : inR p = true) (hq : inR q = true) (hr : inR r = true) (hs : inR s = true) : -4611686018427387904 ≤ (p - q) * (r - s) ∧ (p - q) * (r - s) ≤ 4611686018427387904 := by
  rw [inR_iff] at hp hq hr hs
  exact mul_bd (by omega) (by omega) (by omega) (by omega)

/-- Is n between a and b, or one of them? -/
def btw (a b n : Int) : Bool := decide (a ≤ n) && decide (n ≤ b) || decide (b ≤ n) && decide (n ≤ a)
theorem btw_iff {a b n : Int} : btw a b n = true ↔ (a ≤ n ∧ n ≤ b ∨ b ≤ n ∧ n ≤ a) := by unfold btw; simp
theorem btw_no {a b n : Int} (h : ¬ (a ≤ n ∧ n ≤ b ∨ b ≤ n ∧ n ≤ a)) : btw a b n = false := by rw [← Bool.not_eq_true, btw_iff]; exact h
theorem inR_no {n : Int} (h : ¬ (-1073741824 ≤ n ∧ n ≤ 1073741824)) : inR n = false := by rw [← Bool.not_eq_true, inR_iff]; exact h
theorem btw_comm (a b n : Int) : btw a b n = btw b a n := by unfold btw; exact Bool.or_comm _ _
theorem btw_left (a b : Int) : btw a b a = true := by rw [btw_iff]; omega
theorem btw_move (a b n d : Int) : btw (a + d) (b + d) (n + d) = btw a b n := by
  rw [Bool.eq_iff_iff, btw_iff, btw_iff]; omega

/-- Is c in the rectangle of a and b? -/
def boxB (ax ay bx b2 cx cy : Int) : Bool := btw ax bx cx && btw ay b2 cy
/-- Is c on the segment of a and b? -/
def onB (ax ay bx b2 cx cy : Int) : Bool := (turnI ax ay bx b2 cx cy == 0) && boxB ax ay bx b2 cx cy
theorem onB_of_turn {ax ay bx b2 cx cy : Int} (h : (turnI ax ay bx b2 cx cy == 0) = true) : onB ax ay bx b2 cx cy = boxB ax ay bx b2 cx cy := by unfold onB; rw [h]; rfl
theorem onB_of_not {ax ay bx b2 cx cy : Int} (h : (turnI ax ay bx b2 cx cy == 0) = false) : onB ax ay bx b2 cx cy = false := by unfold onB; rw [h]; rfl
/-- Do the segments part each other's ends strictly? -/
def partB (ax ay bx b2 cx cy dx dy : Int) : Bool := decide (turnI ax ay bx b2 cx cy * turnI ax ay bx b2 dx dy < 0)
def touchB (ax ay bx b2 cx cy dx dy : Int) : Bool := onB ax ay bx b2 cx cy || (onB ax ay bx b2 dx dy || (onB cx cy dx dy ax ay || onB cx cy dx dy bx b2))
/-- Do the segments meet? -/
def crossB (ax ay bx b2 cx cy dx dy : Int) : Bool := partB ax ay bx b2 cx cy dx dy && partB cx cy dx dy ax ay bx b2 || touchB ax ay bx b2 cx cy dx dy

theorem turnI_swap (ax ay bx b2 cx cy : Int) : turnI bx b2 ax ay cx cy = -turnI ax ay bx b2 cx cy := by
  unfold turnI
  apply sgn_of_neg
  simp only [Int.sub_mul, Int.mul_sub]
  have e1 := Int.mul_comm ax ay; have e2 := Int.mul_comm bx b2; have e3 := Int.mul_comm ax b2; have e4 := Int.mul_comm bx ay
  have e5 := Int.mul_comm ay cx; have e6 := Int.mul_comm b2 cx; have e7 := Int.mul_comm ay bx; have e8 := Int.mul_comm b2 ax
  omega
theorem turnI_rot (ax ay bx b2 cx cy : Int) : turnI bx b2 cx cy ax ay = turnI ax ay bx b2 cx cy := by
  unfold turnI
  apply sgn_of_sub
  simp only [Int.sub_mul, Int.mul_sub]
  have e1 := Int.mul_comm ax ay; have e2 := Int.mul_comm bx b2; have e3 := Int.mul_comm cx cy
  have e4 := Int.mul_comm ax b2; have e5 := Int.mul_comm ax cy; have e6 := Int.mul_comm bx ay; have e7 := Int.mul_comm bx cy; have e8 := Int.mul_comm cx ay; have e9 := Int.mul_comm cx b2
  omega
theorem turnI_move (ax ay bx b2 cx cy dx dy : Int) : turnI (ax + dx) (ay + dy) (bx + dx) (b2 + dy) (cx + dx) (cy + dy) = turnI ax ay bx b2 cx cy := by
  unfold turnI
  rw [show bx + dx - (ax + dx) = bx - ax by omega, show cy + dy - (ay + dy) = cy - ay by omega, show b2 + dy - (ay + dy) = b2 - ay by omega, show cx + dx - (ax + dx) = cx - ax by omega]
theorem turnI_self (ax ay bx b2 : Int) : turnI ax ay bx b2 ax ay = 0 := by
  unfold turnI
  rw [Int.sub_self, Int.sub_self, Int.mul_zero, Int.mul_zero]; exact sgn_eq 0
theorem onB_swap (ax ay bx b2 cx cy : Int) : onB bx b2 ax ay cx cy = onB ax ay bx b2 cx cy := by
  unfold onB boxB
  rw [turnI_swap, btw_comm bx, btw_comm b2]
  congr 1
  rw [Bool.eq_iff_iff]; simp
theorem onB_left (ax ay bx b2 : Int) : onB ax ay bx b2 ax ay = true := by
  unfold onB boxB; rw [turnI_self, btw_left, btw_left]; rfl
theorem onB_move (ax ay bx b2 cx cy dx dy : Int) : onB (ax + dx) (ay + dy) (bx + dx) (b2 + dy) (cx + dx) (cy + dy) = onB ax ay bx b2 cx cy := by
  unfold onB boxB; rw [turnI_move, btw_move, btw_move]
theorem partB_swap (ax ay bx b2 cx cy dx dy : Int) : partB bx b2 ax ay cx cy dx dy = partB ax ay bx b2 cx cy dx dy := by
  unfold partB
  rw [turnI_swap, turnI_swap ax ay bx b2 dx dy, Int.neg_mul_neg]
theorem partB_comm (ax ay bx b2 cx cy dx dy : Int) : partB ax ay bx b2 dx dy cx cy = partB ax ay bx b2 cx cy dx dy := by
  unfold partB; rw [Int.mul_comm]
/-- Segments that meet do so either way round. -/
theorem crossB_round (ax ay bx b2 cx cy dx dy : Int) : crossB cx cy dx dy bx b2 ax ay = crossB ax ay bx b2 cx cy dx dy := by
  unfold crossB touchB
  rw [partB_comm cx cy dx dy ax ay bx b2, partB_swap ax ay bx b2 cx cy dx dy, onB_swap ax ay bx b2 cx cy, onB_swap ax ay bx b2 dx dy]
  generalize partB ax ay bx b2 cx cy dx dy = p; generalize partB cx cy dx dy ax ay bx b2 = q
  generalize onB ax ay bx b2 cx cy = r; generalize onB ax ay bx b2 dx dy = s; generalize onB cx cy dx dy ax ay = t; generalize onB cx cy dx dy bx b2 = u
  cases p <;> cases q <;> cases r <;> cases s <;> cases t <;> cases u <;> rfl

/-- The other way to say that two turns are each other's opposites, neither of them none. -/
theorem neg_iff_neg_one {p q : Int} (hp : p = 1 ∨ p = -1 ∨ p = 0) (hq : q = 1 ∨ q = -1 ∨ q = 0) : decide (p * q < 0) = (p * q == -1) := by
  rcases hp with rfl | rfl | rfl <;> rcases hq with rfl | rfl | rfl <;> rfl
/-- The document's own form of it. -/
def apartB (ax ay bx b2 cx cy dx dy : Int) : Bool := (turnI ax ay bx b2 cx cy * turnI ax ay bx b2 dx dy == -1) && (turnI cx cy dx dy ax ay * turnI cx cy dx dy bx b2 == -1)
def crossR (ax ay bx b2 cx cy dx dy : Int) : Bool := onB ax ay bx b2 cx cy || (onB ax ay bx b2 dx dy || (onB cx cy dx dy ax ay || (onB cx cy dx dy bx b2 || apartB ax ay bx b2 cx cy dx dy)))
theorem crossR_eq (ax ay bx b2 cx cy dx dy : Int) : crossR ax ay bx b2 cx cy dx dy = crossB ax ay bx b2 cx cy dx dy := by
  unfold crossR crossB touchB apartB partB
  rw [neg_iff_neg_one (turnI_cases ..) (turnI_cases ..), neg_iff_neg_one (turnI_cases ..) (turnI_cases ..)]
  generalize (turnI ax ay bx b2 cx cy * turnI ax ay bx b2 dx dy == -1) = p; generalize (turnI cx cy dx dy ax ay * turnI cx cy dx dy bx b2 == -1) = q
  generalize onB ax ay bx b2 cx cy = r; generalize onB ax ay bx b2 dx dy = s; generalize onB cx cy dx dy ax ay = t; generalize onB cx cy dx dy bx b2 = u
  cases p <;> cases q <;> cases r <;> cases s <;> cases t <;> cases u <;> rfl

/-- May p be moved by d? -/
def addB (px py dx dy : Int) : Bool := mayB px py && (mayB dx dy && mayB (px + dx) (py + dy))
end Go.Proofs.Ythakngphffoooaa.Pt
/-
  The plain arithmetic behind layer 2 (rect): no program here. It is proved what rectangles of integers are to each other; conditions are stated at each theorem.
-/
namespace Go.Proofs.Ythakngphffoooaa.Rc
open Go.Proofs.Ythakngphffoooaa.Pt

/-- The less and the greater of two. -/
def mn (a b : Int) : Int := if b < a then b else a
def mx (a b : Int) : Int := if a < b then b else a
theorem mn_cases (a b : Int) : (mn a b = a ∧ a ≤ b) ∨ (mn a b = b ∧ b < a) := by unfold mn; split <;> omega
theorem mx_cases (a b : Int) : (mx a b = b ∧ a < b) ∨ (mx a b = a ∧ b ≤ a) := by unfold mx; split <;> omega
theorem mn_comm (a b : Int) : mn a b = mn b a := by have := mn_cases a b; have := mn_cases b a; omega
theorem mx_comm (a b : Int) : mx a b = mx b a := by have := mx_cases a b; have := mx_cases b a; omega
theorem mn_min (a b : Int) : min a b = mn a b := by unfold mn; omega
theorem mx_max (a b : Int) : max a b = mx a b := by unfold mx; omega
theorem mx_neg (a b : Int) : -mn (-a) (-b) = mx a b := by have := mn_cases (-a) (-b); have := mx_cases a b; omega
theorem mn_inR {a b : Int} (ha : inR a = true) (hb : inR b = true) : inR (mn a b) = true := by rcases mn_cases a b with h | h <;> rw [h.1] <;> assumption
theorem mx_inR {a b : Int} (ha : inR a = true) (hb : inR b = true) : inR (mx a b) = true := by rcases mx_cases a b with h | h <;> rw [h.1] <;> assumption

/-- Are the sides in order? -/
def ordB (x1 y1 x2 y2 : Int) : Bool := decide (x1 ≤ x2) && decide (y1 ≤ y2)
theorem ordB_iff {x1 y1 x2 y2 : Int} : ordB x1 y1 x2 y2 = true ↔ x1 ≤ x2 ∧ y1 ≤ y2 := by unfold ordB; simp
theorem ordB_no {x1 y1 x2 y2 : Int} (h : ¬ (x1 ≤ x2 ∧ y1 ≤ y2)) : ordB x1 y1 x2 y2 = false := by rw [← Bool.not_eq_true, ordB_iff]; exact h
/-- A rectangle that may be. -/
def rmayB (x1 y1 x2 y2 : Int) : Bool := mayB x1 y1 && (mayB x2 y2 && ordB x1 y1 x2 y2)
theorem rmayB_iff {x1 y1 x2 y2 : Int} : rmayB x1 y1 x2 y2 = true ↔ mayB x1 y1 = true ∧ mayB x2 y2 = true ∧ ordB x1 y1 x2 y2 = true := by unfold rmayB; simp
theorem rmayB_bd {x1 y1 x2 y2 : Int} (h : rmayB x1 y1 x2 y2 = true) : -1073741824 ≤ x1 ∧ x1 ≤ x2 ∧ x2 ≤ 1073741824 ∧ -1073741824 ≤ y1 ∧ y1 ≤ y2 ∧ y2 ≤ 1073741824 := by
  obtain ⟨h1, h2, h3⟩ := rmayB_iff.1 h
  rw [mayB_iff, inR_iff, inR_iff] at h1 h2; rw [ordB_iff] at h3; omega
theorem rmayB_mk {x1 y1 x2 y2 : Int} (h : -1073741824 ≤ x1 ∧ x1 ≤ x2 ∧ x2 ≤ 1073741824 ∧ -1073741824 ≤ y1 ∧ y1 ≤ y2 ∧ y2 ≤ 1073741824) : rmayB x1 y1 x2 y2 = true := by
  rw [rmayB_iff, mayB_iff, mayB_iff, inR_iff, inR_iff, inR_iff, inR_iff, ordB_iff]; omega
/-- Is a point in a rectangle? -/
def inB (x1 y1 x2 y2 px py : Int) : Bool := decide (x1 ≤ px) && (decide (px ≤ x2) && (decide (y1 ≤ py) && decide (py ≤ y2)))
theorem inB_iff {x1 y1 x2 y2 px py : Int} : inB x1 y1 x2 y2 px py = true ↔ x1 ≤ px ∧ px ≤ x2 ∧ y1 ≤ py ∧ py ≤ y2 := by unfold inB; simp
theorem inB_no {x1 y1 x2 y2 px py : Int} (h : ¬ (x1 ≤ px ∧ px ≤ x2 ∧ y1 ≤ py ∧ py ≤ y2)) : inB x1 y1 x2 y2 px py = false := by rw [← Bool.not_eq_true, inB_iff]; exact h
/-- Does the first hold the second? -/
def holdsB (ax1 ay1 ax2 ay2 bx1 by1 bx2 by2 : Int) : Bool := inB ax1 ay1 ax2 ay2 bx1 by1 && inB ax1 ay1 ax2 ay2 bx2 by2
theorem holdsB_iff {ax1 ay1 ax2 ay2 bx1 by1 bx2 by2 : Int} : holdsB ax1 ay1 ax2 ay2 bx1 by1 bx2 by2 = true ↔ inB ax1 ay1 ax2 ay2 bx1 by1 = true ∧ inB ax1 ay1 ax2 ay2 bx2 by2 = true := by unfold holdsB; simp
/-- A rectangle's area. -/
def areaI (x1 y1 x2 y2 : Int) : Int := (x2 - x1) * (y2 - y1)
theorem areaI_bd {x1 y1 x2 y2 : Int} (h : rmayB x1 y1 x2 y2 = true) : 0 ≤ areaI x1 y1 x2 y2 ∧ areaI x1 y1 x2 y2 ≤ 4611686018427387904 := by
  have := rmayB_bd h
  exact ⟨Int.mul_nonneg (by omega) (by omega), (mul_bd (by omega) (by omega) (by omega) (by omega)).2⟩
/-- A rectangle's margin. -/
def marginI (x1 y1 x2 y2 : Int) : Int := x2 - x1 + y2 - y1
theorem marginI_eq (x1 y1 x2 y2 : Int) : marginI x1 y1 x2 y2 = x2 - x1 + (y2 - y1) := by unfold marginI; omega

section
variable {ax1 ay1 ax2 ay2 bx1 by1 bx2 by2 : Int}
/-- A join may be. -/
theorem join_may (ha : rmayB ax1 ay1 ax2 ay2 = true) (hb : rmayB bx1 by1 bx2 by2 = true) : rmayB (mn ax1 bx1) (mn ay1 by1) (mx ax2 bx2) (mx ay2 by2) = true := by
  have := rmayB_bd ha; have := rmayB_bd hb
  have := mn_cases ax1 bx1; have := mn_cases ay1 by1; have := mx_cases ax2 bx2; have := mx_cases ay2 by2
  exact rmayB_mk (by omega)
/-- A join holds both. -/
theorem join_holds1 (ha : rmayB ax1 ay1 ax2 ay2 = true) (hb : rmayB bx1 by1 bx2 by2 = true) : holdsB (mn ax1 bx1) (mn ay1 by1) (mx ax2 bx2) (mx ay2 by2) ax1 ay1 ax2 ay2 = true := by
  have := rmayB_bd ha; have := rmayB_bd hb
  have := mn_cases ax1 bx1; have := mn_cases ay1 by1; have := mx_cases ax2 bx2; have := mx_cases ay2 by2
  rw [holdsB_iff, inB_iff, inB_iff]; omega
theorem join_holds2 (ha : rmayB ax1 ay1 ax2 ay2 = true) (hb : rmayB bx1 by1 bx2 by2 = true) : holdsB (mn ax1 bx1) (mn ay1 by1) (mx ax2 bx2) (mx ay2 by2) bx1 by1 bx2 by2 = true := by
  have := rmayB_bd ha; have := rmayB_bd hb
  have := mn_cases ax1 bx1; have := mn_cases ay1 by1; have := mx_cases ax2 bx2; have := mx_cases ay2 by2
  rw [holdsB_iff, inB_iff, inB_iff]; omega
/-- Its area is no less. -/
theorem join_grows (ha : rmayB ax1 ay1 ax2 ay2 = true) (hb : rmayB bx1 by1 bx2 by2 = true) : areaI ax1 ay1 ax2 ay2 ≤ areaI (mn ax1 bx1) (mn ay1 by1) (mx ax2 bx2) (mx ay2 by2) := by
  have := rmayB_bd ha; have := rmayB_bd hb
  have := mn_cases ax1 bx1; have := mn_cases ay1 by1; have := mx_cases ax2 bx2; have := mx_cases ay2 by2
  exact Int.mul_le_mul (by omega) (by omega) (by omega) (by omega)
/-- A meet, where the sides are in order, may be, and is held by both. -/
theorem meet_may (ha : rmayB ax1 ay1 ax2 ay2 = true) (hb : rmayB bx1 by1 bx2 by2 = true) (ho : ordB (mx ax1 bx1) (mx ay1 by1) (mn ax2 bx2) (mn ay2 by2) = true) : rmayB (mx ax1 bx1) (mx ay1 by1) (mn ax2 bx2) (mn ay2 by2) = true := by
  have := rmayB_bd ha; have := rmayB_bd hb; rw [ordB_iff] at ho
  have := mx_cases ax1 bx1; have := mx_cases ay1 by1; have := mn_cases ax2 bx2; have := mn_cases ay2 by2
  exact rmayB_mk (by omega)
theorem meet_held1 (ha : rmayB ax1 ay1 ax2 ay2 = true) (hb : rmayB bx1 by1 bx2 by2 = true) (ho : ordB (mx ax1 bx1) (mx ay1 by1) (mn ax2 bx2) (mn ay2 by2) = true) : holdsB ax1 ay1 ax2 ay2 (mx ax1 bx1) (mx ay1 by1) (mn ax2 bx2) (mn ay2 by2) = true := by
  have := rmayB_bd ha; have := rmayB_bd hb; rw [ordB_iff] at ho
  have := mx_cases ax1 bx1; have := mx_cases ay1 by1; have := mn_cases ax2 bx2; have := mn_cases ay2 by2
  rw [holdsB_iff, inB_iff, inB_iff]; omega
theorem meet_held2 (ha : rmayB ax1 ay1 ax2 ay2 = true) (hb : rmayB bx1 by1 bx2 by2 = true) (ho : ordB (mx ax1 bx1) (mx ay1 by1) (mn ax2 bx2) (mn ay2 by2) = true) : holdsB bx1 by1 bx2 by2 (mx ax1 bx1) (mx ay1 by1) (mn ax2 bx2) (mn ay2 by2) = true := by
  have := rmayB_bd ha; have := rmayB_bd hb; rw [ordB_iff] at ho
  have := mx_cases ax1 bx1; have := mx_cases ay1 by1; have := mn_cases ax2 bx2; have := mn_cases ay2 by2
  rw [holdsB_iff, inB_iff, inB_iff]; omega
/-- What is in both is in the meet, and in the join. -/
theorem in_meet (px py : Int) : (inB ax1 ay1 ax2 ay2 px py && inB bx1 by1 bx2 by2 px py) = inB (mx ax1 bx1) (mx ay1 by1) (mn ax2 bx2) (mn ay2 by2) px py := by
  have := mx_cases ax1 bx1; have := mx_cases ay1 by1; have := mn_cases ax2 bx2; have := mn_cases ay2 by2
  rw [Bool.eq_iff_iff, Bool.and_eq_true, inB_iff, inB_iff, inB_iff]; omega
theorem in_order {x1 y1 x2 y2 px py : Int} (h : ordB x1 y1 x2 y2 = false) : inB x1 y1 x2 y2 px py = false := by
  apply inB_no; intro hc
  have : ordB x1 y1 x2 y2 = true := ordB_iff.2 (by omega)
  rw [h] at this; cases this
theorem in_join {px py : Int} (h : inB ax1 ay1 ax2 ay2 px py = true) (h' : inB bx1 by1 bx2 by2 px py = true) : inB (mn ax1 bx1) (mn ay1 by1) (mx ax2 bx2) (mx ay2 by2) px py = true := by
  have := mn_cases ax1 bx1; have := mn_cases ay1 by1; have := mx_cases ax2 bx2; have := mx_cases ay2 by2
  rw [inB_iff] at h h' ⊢; omega
end
end Go.Proofs.Ythakngphffoooaa.Rc
/-
  The least rectangle of a list of points: plain arithmetic, no program here.
-/
namespace Go.Proofs.Ythakngphffoooaa.Rc
open Go.Proofs.Ythakngphffoooaa.Pt

/-- Four coordinates. -/
structure R4 where
  x1 : Int
  y1 : Int
  x2 : Int
  y2 : Int
/-- Joined with a point. -/
def stepR (r : R4) (p : Int × Int) : R4 := ⟨mn r.x1 p.1, mn r.y1 p.2, mx r.x2 p.1, mx r.y2 p.2⟩
def singR (p : Int × Int) : R4 := ⟨p.1, p.2, p.1, p.2⟩
/-- The first k points of a list, joined; it starts from the first one. -/
def accR (p : Int × Int) (l : List (Int × Int)) (k : Nat) : R4 := (l.take k).foldl stepR (singR p)
theorem accR_zero (p : Int × Int) (l : List (Int × Int)) : accR p l 0 = singR p := by simp [accR]
theorem accR_succ (p : Int × Int) (l : List (Int × Int)) (k : Nat) (h : k < l.length) : accR p l (k + 1) = stepR (accR p l k) l[k] := by
  unfold accR
  rw [List.take_succ_eq_append_getElem h, List.foldl_append]; rfl
def pmay (p : Int × Int) : Bool := mayB p.1 p.2
def okR (r : R4) : Prop := inR r.x1 = true ∧ inR r.y1 = true ∧ inR r.x2 = true ∧ inR r.y2 = true
theorem okR_sing {p : Int × Int} (h : pmay p = true) : okR (singR p) := by
  obtain ⟨h1, h2⟩ := mayB_iff.1 h
  exact ⟨h1, h2, h1, h2⟩
theorem okR_step {r : R4} {p : Int × Int} (h : okR r) (hp : pmay p = true) : okR (stepR r p) := by
  obtain ⟨h1, h2⟩ := mayB_iff.1 hp
  exact ⟨mn_inR h.1 h1, mn_inR h.2.1 h2, mx_inR h.2.2.1 h1, mx_inR h.2.2.2 h2⟩
theorem okR_fold : ∀ (l : List (Int × Int)) (r : R4), okR r → l.all pmay = true → okR (l.foldl stepR r)
  | [], _, h, _ => h
  | p :: l, r, h, ha => by
    simp only [List.all_cons, Bool.and_eq_true] at ha
    exact okR_fold l _ (okR_step h ha.1) ha.2
theorem okR_acc {p : Int × Int} {l : List (Int × Int)} {k : Nat} (hp : pmay p = true) (h : (l.take k).all pmay = true) : okR (accR p l k) := okR_fold _ _ (okR_sing hp) h
theorem all_succ {l : List (Int × Int)} {k : Nat} (hk : k < l.length) (h : (l.take k).all pmay = true) (h1 : pmay l[k] = true) : (l.take (k + 1)).all pmay = true := by
  rw [List.take_succ_eq_append_getElem hk, List.all_append, h]; simp [h1]
theorem all_no {l : List (Int × Int)} {k : Nat} (hk : k < l.length) (h1 : pmay l[k] = false) : l.all pmay = false := by
  rw [← Bool.not_eq_true, List.all_eq_true]
  intro h
  have := h _ (List.getElem_mem hk)
  rw [h1] at this; cases this
/-- The least rectangle, or a zero one. -/
def ofR (l : List (Int × Int)) : R4 := match l with
  | [] => ⟨0, 0, 0, 0⟩
  | p :: t => if (p :: t).all pmay then accR p (p :: t) (p :: t).length else ⟨0, 0, 0, 0⟩
def ofB (l : List (Int × Int)) : Bool := !l.isEmpty && l.all pmay
theorem ofR_no {l : List (Int × Int)} (h : l.all pmay = false) : ofR l = ⟨0, 0, 0, 0⟩ := by
  cases l with
  | nil => rfl
  | cons p t => simp only [ofR, h]; rfl
theorem ofB_no {l : List (Int × Int)} (h : l.all pmay = false) : ofB l = false := by unfold ofB; rw [h]; simp
theorem ofR_yes {p : Int × Int} {t : List (Int × Int)} (h : (p :: t).all pmay = true) : ofR (p :: t) = accR p (p :: t) (p :: t).length := by simp only [ofR, h]; rfl
theorem ofB_yes {p : Int × Int} {t : List (Int × Int)} (h : (p :: t).all pmay = true) : ofB (p :: t) = true := by unfold ofB; rw [h]; rfl
end Go.Proofs.Ythakngphffoooaa.Rc
/-
  The plain geometry behind layer 3 (poly): no program here. Polygons as lists of points, gone round by any whole number: simple ones, what is in them, and twice their area; from whichever vertex on, turned round, and moved.
-/
namespace Go.Proofs.Ythakngphffoooaa.Pl
open Go.Proofs.Ythakngphffoooaa.Pt Go.Proofs.Ythakngphffoooaa.Rc

abbrev Pnt := Int × Int
def onP (a b c : Pnt) : Bool := onB a.1 a.2 b.1 b.2 c.1 c.2
def crossP (a b c d : Pnt) : Bool := crossB a.1 a.2 b.1 b.2 c.1 c.2 d.1 d.2
def turnP (a b c : Pnt) : Int := turnI a.1 a.2 b.1 b.2 c.1 c.2
theorem onP_swap (a b c : Pnt) : onP b a c = onP a b c := onB_swap ..
theorem crossP_swap (a b c d : Pnt) : crossP b a d c = crossP a b c d := by
  unfold crossP
  rw [crossB_round c.1 c.2 d.1 d.2 b.1 b.2 a.1 a.2, crossB_round]
theorem crossP_comm (a b c d : Pnt) : crossP c d b a = crossP a b c d := crossB_round ..

/-- The vertex at any whole number, gone round. -/
def at_ (l : List Pnt) (j : Int) : Pnt := l.getD (j % (l.length : Int)).toNat (0, 0)
section
variable {l : List Pnt}
theorem at_of (r : Nat) (q : Int) (h : r < l.length) : at_ l ((r : Int) + (l.length : Int) * q) = l[r] := by
  unfold at_
  rw [Int.add_mul_emod_self_left, Int.emod_eq_of_lt (by omega) (by omega), Int.toNat_natCast]
  rw [List.getD_eq_getElem?_getD, List.getElem?_eq_getElem h]; rfl
theorem at_nat {i : Nat} (h : i < l.length) : at_ l (i : Int) = l[i] := by
  have := at_of (l := l) i 0 h
  rwa [Int.mul_zero, Int.add_zero] at this
theorem at_per (l : List Pnt) (j q : Int) : at_ l (j + (l.length : Int) * q) = at_ l j := by
  unfold at_; rw [Int.add_mul_emod_self_left]
theorem at_mod (l : List Pnt) (j : Int) : at_ l (j % (l.length : Int)) = at_ l j := by
  unfold at_; rw [Int.emod_emod_of_dvd _ (Int.dvd_refl _)]
theorem at_natmod {i : Nat} (h : 0 < l.length) : at_ l (i : Int) = l[i % l.length]'(Nat.mod_lt _ h) := by
  rw [← at_mod, ← Int.natCast_emod, at_nat (Nat.mod_lt _ h)]
end

/-- The sum of the first k. -/
def sumTo (f : Int → Int) : Nat → Int
  | 0 => 0
  | k + 1 => sumTo f k + f k
theorem sumTo_succ (f : Int → Int) (k : Nat) : sumTo f (k + 1) = sumTo f k + f k := rfl
theorem sumTo_congr {f g : Int → Int} : ∀ (n : Nat), (∀ i : Nat, i < n → f i = g i) → sumTo f n = sumTo g n
  | 0, _ => rfl
  | n + 1, h => by rw [sumTo_succ, sumTo_succ, sumTo_congr n (fun i hi => h i (by omega)), h n (by omega)]
theorem sumTo_first (f : Int → Int) : ∀ n : Nat, sumTo f (n + 1) = f 0 + sumTo (fun j => f (j + 1)) n
  | 0 => by simp [sumTo]
  | n + 1 => by
    rw [sumTo_succ, sumTo_first f n, sumTo_succ]
    have : f ((n + 1 : Nat) : Int) = f ((n : Int) + 1) := by rw [Int.natCast_add]; rfl
    rw [this]; omega
/-- Of what comes again behind n, any n in a row make one sum. -/
theorem sumTo_shift1 {f : Int → Int} (n : Nat) (hp : ∀ j, f (j + n) = f j) : sumTo (fun j => f (j + 1)) n = sumTo f n := by
  have h1 := sumTo_first f n
  rw [sumTo_succ] at h1
  have h2 := hp 0
  rw [Int.zero_add] at h2
  omega
theorem sumTo_shift {f : Int → Int} (n : Nat) (hp : ∀ j, f (j + n) = f j) : ∀ m : Nat, sumTo (fun j => f (j + m)) n = sumTo f n
  | 0 => by simp
  | m + 1 => by
    have h := sumTo_shift1 (f := fun j => f (j + m)) n (fun j => by show f (j + n + m) = f (j + m); rw [show j + (n : Int) + m = j + m + n by omega, hp])
    rw [sumTo_shift n hp m] at h
    rw [← h]
    exact sumTo_congr n fun i _ => by show f _ = f _; congr 1; omega
theorem sumTo_back (f : Int → Int) : ∀ n : Nat, sumTo (fun j => f (n - 1 - j)) n = sumTo f n
  | 0 => rfl
  | n + 1 => by
    rw [sumTo_first]
    have h := sumTo_back f n
    rw [sumTo_succ, ← h]
    have e : sumTo (fun j => f (((n + 1 : Nat) : Int) - 1 - (j + 1))) n = sumTo (fun j => f ((n : Int) - 1 - j)) n := sumTo_congr n fun i _ => by show f _ = f _; congr 1; omega
    rw [e, Int.add_comm]; congr 2; omega
/-- .. and the other way round, too. -/
theorem sumTo_turn {f : Int → Int} (n : Nat) (hp : ∀ j, f (j + n) = f j) (m : Nat) : sumTo (fun j => f (m - 1 - j)) n = sumTo f n := by
  rw [← sumTo_back f n]
  have h := sumTo_shift (f := fun j => f (n - 1 - j)) n (fun j => by show f _ = f _; rw [← hp]; congr 1; omega)
  have key : ∀ d : Nat, sumTo (fun j => f (((m + d : Nat) : Int) - 1 - j)) n = sumTo (fun j => f ((m : Int) - 1 - j)) n := by
    intro d
    have g := sumTo_shift (f := fun j => f (((m + d : Nat) : Int) - 1 - j)) n (fun j => by show f _ = f _; rw [← hp]; congr 1; omega) d
    rw [← g]
    exact sumTo_congr n fun i _ => by show f _ = f _; congr 1; omega
  have key2 : ∀ d : Nat, sumTo (fun j => f (((n + d : Nat) : Int) - 1 - j)) n = sumTo (fun j => f ((n : Int) - 1 - j)) n := by
    intro d
    have g := sumTo_shift (f := fun j => f (((n + d : Nat) : Int) - 1 - j)) n (fun j => by show f _ = f _; rw [← hp]; congr 1; omega) d
    rw [← g]
    exact sumTo_congr n fun i _ => by show f _ = f _; congr 1; omega
  clear h
  rw [← key n, ← key2 m, Nat.add_comm]

theorem parts_of (n : Nat) (hn : 0 < n) (j : Int) : ∃ (r : Nat) (q : Int), r < n ∧ j = (r : Int) + (n : Int) * q := by
  have h0 : 0 ≤ j % (n : Int) := Int.emod_nonneg _ (by omega)
  have h1 : j % (n : Int) < (n : Int) := Int.emod_lt_of_pos _ (by omega)
  refine ⟨(j % (n : Int)).toNat, j / (n : Int), by omega, ?_⟩
  rw [Int.toNat_of_nonneg h0]; exact (Int.emod_add_mul_ediv j _).symm
/-- The same points from another vertex on. -/
theorem at_turned {l t : List Pnt} {m : Nat} (hl : 0 < l.length) (hn : t.length = l.length) (h : ∀ (i : Nat) (hi : i < t.length), t[i] = l[(i + m) % l.length]'(Nat.mod_lt _ hl)) (j : Int) : at_ t j = at_ l (j + m) := by
  obtain ⟨r, q, hr, rfl⟩ := parts_of l.length hl j
  have e1 : at_ t ((r : Int) + (l.length : Int) * q) = t[r]'(by omega) := by
    rw [← hn]; exact at_of r _ (by omega)
  rw [e1, h r (by omega), ← at_natmod hl, show (r : Int) + (l.length : Int) * q + (m : Int) = ((r + m : Nat) : Int) + (l.length : Int) * q by omega, at_per]
/-- .. and turned round. -/
theorem at_round {l t : List Pnt} (hl : 0 < l.length) (hn : t.length = l.length) (h : ∀ (i : Nat) (hi : i < t.length), t[i] = l[l.length - 1 - i]'(by omega)) (j : Int) : at_ t j = at_ l (-1 - j) := by
  obtain ⟨r, q, hr, rfl⟩ := parts_of l.length hl j
  have e1 : at_ t ((r : Int) + (l.length : Int) * q) = t[r]'(by omega) := by
    rw [← hn]; exact at_of r _ (by omega)
  rw [e1, h r (by omega), ← at_of (l.length - 1 - r) (-q - 1) (by omega)]
  congr 1
  rw [Int.mul_sub, Int.mul_neg, Int.mul_one]
  omega
/-- .. and moved. -/
def addP (p d : Pnt) : Pnt := (p.1 + d.1, p.2 + d.2)
theorem at_moved {l t : List Pnt} {d : Pnt} (hl : 0 < l.length) (hn : t.length = l.length) (h : ∀ (i : Nat) (hi : i < t.length), t[i] = addP (l[i]'(by omega)) d) (j : Int) : at_ t j = addP (at_ l j) d := by
  obtain ⟨r, q, hr, rfl⟩ := parts_of l.length hl j
  have e1 : at_ t ((r : Int) + (l.length : Int) * q) = t[r]'(by omega) := by
    rw [← hn]; exact at_of r _ (by omega)
  rw [e1, h r (by omega), at_of r q hr]

/-- A simple polygon, of n vertices that are gone round. -/
structure SimpleQ (n : Int) (P : Int → Pnt) : Prop where
  may : ∀ i, pmay (P i) = true
  own : ∀ i k, ¬ n ∣ (i - k) → P i ≠ P k
  next : ∀ i, onP (P i) (P (i + 1)) (P (i + 2)) = false ∧ onP (P (i + 1)) (P (i + 2)) (P i) = false
  apart : ∀ i k, ¬ n ∣ (k - i) → ¬ n ∣ (k - i - 1) → ¬ n ∣ (i - k - 1) → crossP (P i) (P (i + 1)) (P k) (P (k + 1)) = false
theorem SimpleQ.shift {n : Int} {P : Int → Pnt} (h : SimpleQ n P) (m : Int) : SimpleQ n (fun j => P (j + m)) where
  may i := h.may _
  own i k hd := h.own _ _ (by rwa [show i + m - (k + m) = i - k by omega])
  next i := by
    have := h.next (i + m)
    show onP (P (i + m)) (P (i + 1 + m)) (P (i + 2 + m)) = false ∧ onP (P (i + 1 + m)) (P (i + 2 + m)) (P (i + m)) = false
    rwa [show i + 1 + m = i + m + 1 by omega, show i + 2 + m = i + m + 2 by omega]
  apart i k a b c := by
    have := h.apart (i + m) (k + m) (by rwa [show k + m - (i + m) = k - i by omega]) (by rwa [show k + m - (i + m) - 1 = k - i - 1 by omega]) (by rwa [show i + m - (k + m) - 1 = i - k - 1 by omega])
    show crossP (P (i + m)) (P (i + 1 + m)) (P (k + m)) (P (k + 1 + m)) = false
    rwa [show i + 1 + m = i + m + 1 by omega, show k + 1 + m = k + m + 1 by omega]
theorem SimpleQ.turn {n : Int} {P : Int → Pnt} (h : SimpleQ n P) (m : Int) : SimpleQ n (fun j => P (m - j)) where
  may i := h.may _
  own i k hd := h.own _ _ (by rw [show m - i - (m - k) = -(i - k) by omega, Int.dvd_neg]; exact hd)
  next i := by
    have := h.next (m - i - 2)
    show onP (P (m - i)) (P (m - (i + 1))) (P (m - (i + 2))) = false ∧ onP (P (m - (i + 1))) (P (m - (i + 2))) (P (m - i)) = false
    rw [show m - i - 2 + 1 = m - (i + 1) by omega, show m - i - 2 + 2 = m - i by omega, show m - i - 2 = m - (i + 2) by omega] at this
    exact ⟨by rw [onP_swap]; exact this.2, by rw [onP_swap]; exact this.1⟩
  apart i k a b c := by
    have := h.apart (m - (i + 1)) (m - (k + 1)) (by rw [show m - (k + 1) - (m - (i + 1)) = -(k - i) by omega, Int.dvd_neg]; exact a) (by rw [show m - (k + 1) - (m - (i + 1)) - 1 = i - k - 1 by omega]; exact c) (by rw [show m - (i + 1) - (m - (k + 1)) - 1 = k - i - 1 by omega]; exact b)
    show crossP (P (m - i)) (P (m - (i + 1))) (P (m - k)) (P (m - (k + 1))) = false
    rw [show m - (i + 1) + 1 = m - i by omega, show m - (k + 1) + 1 = m - k by omega] at this
    rw [← crossP_swap]; exact this

/-- Does a ray from p to the right cross this edge? -/
def upB (a b p : Pnt) : Bool := decide (a.2 ≤ p.2) && (decide (p.2 < b.2) && (turnP a b p == 1))
def rayB (a b p : Pnt) : Bool := if b.2 < a.2 then upB b a p else upB a b p
theorem rayB_swap (a b p : Pnt) : rayB b a p = rayB a b p := by
  unfold rayB
  by_cases h1 : b.2 < a.2
  · rw [if_neg (by omega), if_pos h1]
  · by_cases h2 : a.2 < b.2
    · rw [if_pos h2, if_neg h1]
    · have e : a.2 = b.2 := by omega
      rw [if_neg h2, if_neg h1]
      unfold upB
      rw [e]
      by_cases h3 : b.2 ≤ p.2
      · rw [show decide (p.2 < b.2) = false by simp; omega]; simp
      · rw [show decide (b.2 ≤ p.2) = false by simp; omega]; simp
def rayI (a b p : Pnt) : Int := if rayB a b p then 1 else 0
theorem rayI_swap (a b p : Pnt) : rayI b a p = rayI a b p := by unfold rayI; rw [rayB_swap]
/-- On an edge; how many edges a ray crosses; in it. -/
def OnSome (P : Int → Pnt) (p : Pnt) : Prop := ∃ i : Int, onP (P i) (P (i + 1)) p = true
def rays (n : Nat) (P : Int → Pnt) (p : Pnt) : Int := sumTo (fun i => rayI (P i) (P (i + 1)) p) n
def InQ (n : Nat) (P : Int → Pnt) (p : Pnt) : Prop := OnSome P p ∨ rays n P p % 2 = 1
theorem OnSome.shift {P : Int → Pnt} {p : Pnt} (m : Int) : OnSome (fun j => P (j + m)) p ↔ OnSome P p := by
  constructor
  · rintro ⟨i, h⟩
    exact ⟨i + m, by rw [show i + m + 1 = i + 1 + m by omega]; exact h⟩
  · rintro ⟨i, h⟩
    exact ⟨i - m, by show onP (P (i - m + m)) (P (i - m + 1 + m)) p = true; rw [show i - m + m = i by omega, show i - m + 1 + m = i + 1 by omega]; exact h⟩
theorem OnSome.turn {P : Int → Pnt} {p : Pnt} (m : Int) : OnSome (fun j => P (m - j)) p ↔ OnSome P p := by
  constructor
  · rintro ⟨i, h⟩
    exact ⟨m - (i + 1), by rw [onP_swap, show m - (i + 1) + 1 = m - i by omega] ; exact h⟩
  · rintro ⟨i, h⟩
    exact ⟨m - (i + 1), by show onP (P (m - (m - (i + 1)))) (P (m - (m - (i + 1) + 1))) p = true; rw [onP_swap, show m - (m - (i + 1)) = i + 1 by omega, show m - (m - (i + 1) + 1) = i by omega]; exact h⟩
theorem rays_shift {n : Nat} {P : Int → Pnt} {p : Pnt} (hp : ∀ j, P (j + n) = P j) (m : Nat) : rays n (fun j => P (j + m)) p = rays n P p := by
  have := sumTo_shift (f := fun i => rayI (P i) (P (i + 1)) p) n (fun j => by show rayI (P (j + n)) (P (j + n + 1)) p = _; rw [hp, show j + (n : Int) + 1 = j + 1 + n by omega, hp]) m
  unfold rays
  rw [← this]
  exact sumTo_congr n fun i _ => by show rayI (P (i + m)) (P (i + 1 + m)) p = rayI (P (i + m)) (P (i + m + 1)) p; rw [show (i : Int) + 1 + m = i + m + 1 by omega]
theorem rays_turn {n : Nat} {P : Int → Pnt} {p : Pnt} (hp : ∀ j, P (j + n) = P j) : rays n (fun j => P (-1 - j)) p = rays n P p := by
  have hf : ∀ j, (fun i => rayI (P i) (P (i + 1)) p) (j + n) = (fun i => rayI (P i) (P (i + 1)) p) j := fun j => by show rayI (P (j + n)) (P (j + n + 1)) p = rayI (P j) (P (j + 1)) p; rw [hp, show j + (n : Int) + 1 = j + 1 + n by omega, hp]
  have h1 := sumTo_back (fun i => rayI (P i) (P (i + 1)) p) n
  have h2 := sumTo_shift (f := fun j => rayI (P (n - 1 - j)) (P (n - 1 - j + 1)) p) n (fun j => by show rayI (P (n - 1 - (j + n))) (P (n - 1 - (j + n) + 1)) p = _; rw [← hp, ← hp (n - 1 - (j + n) + 1), show (n : Int) - 1 - (j + n) + n = n - 1 - j by omega, show (n : Int) - 1 - (j + n) + 1 + n = n - 1 - j + 1 by omega]) 1
  unfold rays
  rw [← h1, ← h2]
  refine sumTo_congr n fun i _ => ?_
  show rayI (P (-1 - i)) (P (-1 - (i + 1))) p = rayI (P (n - 1 - (i + (1 : Nat)))) (P (n - 1 - (i + (1 : Nat)) + 1)) p
  rw [rayI_swap, ← hp (-1 - (i + 1)), ← hp (-1 - i)]
  congr 2 <;> omega
theorem InQ.shift {n : Nat} {P : Int → Pnt} {p : Pnt} (hp : ∀ j, P (j + n) = P j) (m : Nat) : InQ n (fun j => P (j + m)) p ↔ InQ n P p := by
  unfold InQ; rw [OnSome.shift, rays_shift hp]
theorem InQ.turn {n : Nat} {P : Int → Pnt} {p : Pnt} (hp : ∀ j, P (j + n) = P j) : InQ n (fun j => P (-1 - j)) p ↔ InQ n P p := by
  unfold InQ; rw [OnSome.turn, rays_turn hp]
theorem onP_move (a b c d : Pnt) : onP (addP a d) (addP b d) (addP c d) = onP a b c := onB_move ..
theorem rayI_move (a b p d : Pnt) : rayI (addP a d) (addP b d) (addP p d) = rayI a b p := by
  have up : ∀ a b : Pnt, upB (addP a d) (addP b d) (addP p d) = upB a b p := fun a b => by
    unfold upB turnP addP
    rw [turnI_move, show decide (a.2 + d.2 ≤ p.2 + d.2) = decide (a.2 ≤ p.2) by apply decide_eq_decide.2; omega, show decide (p.2 + d.2 < b.2 + d.2) = decide (p.2 < b.2) by apply decide_eq_decide.2; omega]
  unfold rayI rayB
  rw [up, up]
  by_cases h : b.2 < a.2
  · rw [if_pos h, if_pos (show (addP b d).2 < (addP a d).2 by show b.2 + d.2 < a.2 + d.2; omega)]
  · rw [if_neg h, if_neg (show ¬ (addP b d).2 < (addP a d).2 by show ¬ b.2 + d.2 < a.2 + d.2; omega)]
theorem InQ.move {n : Nat} {P : Int → Pnt} {p d : Pnt} : InQ n (fun j => addP (P j) d) (addP p d) ↔ InQ n P p := by
  unfold InQ OnSome rays
  have e : sumTo (fun i => rayI (addP (P i) d) (addP (P (i + 1)) d) (addP p d)) n = sumTo (fun i => rayI (P i) (P (i + 1)) p) n := sumTo_congr n fun i _ => rayI_move ..
  rw [e]
  simp only [onP_move]
/-- Each vertex is in it. -/
theorem InQ.vertex (n : Nat) (P : Int → Pnt) (i : Int) : InQ n P (P i) := Or.inl ⟨i, onB_left ..⟩
end Go.Proofs.Ythakngphffoooaa.Pl
/-
  The plain geometry behind layer 3 (poly), its second part: what is in a polygon is in its rectangle; twice the area, from whichever vertex on, turned round, and moved. No program here.
-/
namespace Go.Proofs.Ythakngphffoooaa.Pl
open Go.Proofs.Ythakngphffoooaa.Pt Go.Proofs.Ythakngphffoooaa.Rc

theorem turn_right {ax ay bx b2 cx cy : Int} (h1 : ay ≤ cy) (h2 : cy < b2) (h3 : ax < cx) (h4 : bx < cx) : turnI ax ay bx b2 cx cy ≠ 1 := by
  unfold turnI
  have key : (bx - ax) * (cy - ay) ≤ (b2 - ay) * (cx - ax) := by
    by_cases h : bx - ax ≤ 0
    · have a1 : (bx - ax) * (cy - ay) ≤ 0 := Int.mul_nonpos_of_nonpos_of_nonneg h (by omega)
      have a2 : 0 ≤ (b2 - ay) * (cx - ax) := Int.mul_nonneg (by omega) (by omega)
      omega
    · rw [Int.mul_comm (b2 - ay)]
      exact Int.mul_le_mul (by omega) (by omega) (by omega) (by omega)
  intro e
  unfold sgn at e
  rw [if_neg (by omega)] at e
  split at e <;> omega
theorem turn_left {ax ay bx b2 cx cy : Int} (h1 : ay ≤ cy) (h2 : cy < b2) (h3 : cx < ax) (h4 : cx < bx) : turnI ax ay bx b2 cx cy = 1 := by
  unfold turnI
  apply sgn_gt
  by_cases h : 0 ≤ bx - ax
  · have a1 : 0 ≤ (bx - ax) * (cy - ay) := Int.mul_nonneg h (by omega)
    have a2 : (b2 - ay) * (cx - ax) < 0 := Int.mul_neg_of_pos_of_neg (by omega) (by omega)
    omega
  · have a1 : (b2 - ay) * (cx - ax) < (b2 - ay) * (bx - ax) := Int.mul_lt_mul_of_pos_left (by omega) (by omega)
    have a2 : (b2 - ay) * (bx - ax) ≤ (cy - ay) * (bx - ax) := Int.mul_le_mul_of_nonpos_right (by omega) (by omega)
    rw [Int.mul_comm (bx - ax)]
    omega
theorem rayI_01 (a b p : Pnt) : rayI a b p = 0 ∨ rayI a b p = 1 := by unfold rayI; split <;> simp
theorem rayI_none {a b p : Pnt} (h : ∀ u v : Pnt, (u = a ∧ v = b) ∨ (u = b ∧ v = a) → upB u v p = false) : rayI a b p = 0 := by
  unfold rayI rayB
  by_cases h1 : b.2 < a.2
  · rw [if_pos h1, h b a (Or.inr ⟨rfl, rfl⟩)]; rfl
  · rw [if_neg h1, h a b (Or.inl ⟨rfl, rfl⟩)]; rfl
theorem upB_no {a b p : Pnt} (h : a.2 ≤ p.2 → p.2 < b.2 → turnP a b p ≠ 1) : upB a b p = false := by
  rw [← Bool.not_eq_true]
  unfold upB
  simp only [Bool.and_eq_true, decide_eq_true_eq, beq_iff_eq]
  rintro ⟨h1, h2, h3⟩
  exact h h1 h2 h3
theorem sumTo_zero {f : Int → Int} : ∀ n : Nat, (∀ i : Int, f i = 0) → sumTo f n = 0
  | 0, _ => rfl
  | n + 1, h => by rw [sumTo_succ, sumTo_zero n h, h]; rfl
/-- Does a vertex lie on the ray's line, or below it? -/
def lowI (p a : Pnt) : Int := if a.2 ≤ p.2 then 1 else 0
theorem rayI_left {a b p : Pnt} (h1 : p.1 < a.1) (h2 : p.1 < b.1) : ∃ c : Int, rayI a b p = lowI p b - lowI p a + 2 * c := by
  unfold rayI rayB lowI
  by_cases h : b.2 < a.2
  · rw [if_pos h]
    by_cases h3 : b.2 ≤ p.2
    · by_cases h4 : p.2 < a.2
      · rw [show upB b a p = true by unfold upB; simp [h3, h4]; exact turn_left h3 h4 h2 h1, if_pos rfl, if_pos h3, if_neg (by omega)]
        exact ⟨0, by omega⟩
      · rw [show upB b a p = false from upB_no fun _ _ => by omega, if_neg (by simp), if_pos h3, if_pos (by omega)]
        exact ⟨0, by omega⟩
    · rw [show upB b a p = false from upB_no fun _ _ => by omega, if_neg (by simp), if_neg h3, if_neg (by omega)]
      exact ⟨0, by omega⟩
  · rw [if_neg h]
    by_cases h3 : a.2 ≤ p.2
    · by_cases h4 : p.2 < b.2
      · rw [show upB a b p = true by unfold upB; simp [h3, h4]; exact turn_left h3 h4 h1 h2, if_pos rfl, if_pos h3, if_neg (by omega)]
        exact ⟨1, by omega⟩
      · rw [show upB a b p = false from upB_no fun _ _ => by omega, if_neg (by simp), if_pos h3, if_pos (by omega)]
        exact ⟨0, by omega⟩
    · rw [show upB a b p = false from upB_no fun _ _ => by omega, if_neg (by simp), if_neg h3, if_neg (by omega)]
      exact ⟨0, by omega⟩
theorem rays_left {P : Int → Pnt} {p : Pnt} (h : ∀ i, p.1 < (P i).1) : ∀ n : Nat, ∃ c : Int, rays n P p = lowI p (P n) - lowI p (P 0) + 2 * c
  | 0 => ⟨0, by simp [rays, sumTo]⟩
  | n + 1 => by
    obtain ⟨c, hc⟩ := rays_left h n
    obtain ⟨c', hc'⟩ := rayI_left (p := p) (h n) (h (n + 1))
    refine ⟨c + c', ?_⟩
    have : rays (n + 1) P p = rays n P p + rayI (P n) (P (n + 1)) p := rfl
    rw [this, hc, hc', show ((n + 1 : Nat) : Int) = (n : Int) + 1 by omega]
    omega
/-- What is in it is in each rectangle that has all vertices. -/
theorem InQ.box {n : Nat} {P : Int → Pnt} {p : Pnt} (hp : ∀ j, P (j + n) = P j) {x1 y1 x2 y2 : Int} (hb : ∀ i, x1 ≤ (P i).1 ∧ (P i).1 ≤ x2 ∧ y1 ≤ (P i).2 ∧ (P i).2 ≤ y2) (h : InQ n P p) :
    x1 ≤ p.1 ∧ p.1 ≤ x2 ∧ y1 ≤ p.2 ∧ p.2 ≤ y2 := by
  rcases h with ⟨i, h⟩ | h
  · have h1 := hb i
    have h2 := hb (i + 1)
    unfold onP onB boxB at h
    rw [Bool.and_eq_true, Bool.and_eq_true, btw_iff, btw_iff] at h
    omega
  · have no : ∀ (hz : ∀ i, rayI (P i) (P (i + 1)) p = 0), False := fun hz => by
      have : rays n P p = 0 := sumTo_zero n hz
      omega
    refine ⟨?_, ?_, ?_, ?_⟩ <;> apply Classical.byContradiction <;> intro hc
    · obtain ⟨c, e⟩ := rays_left (P := P) (p := p) (fun i => by have := hb i; omega) n
      have e0 := hp 0
      rw [Int.zero_add] at e0
      rw [e0] at e
      omega
    · exact no fun i => rayI_none fun u v huv => upB_no fun h1 h2 => by
        have := hb i; have := hb (i + 1)
        rcases huv with ⟨rfl, rfl⟩ | ⟨rfl, rfl⟩ <;> exact turn_right h1 h2 (by omega) (by omega)
    · exact no fun i => rayI_none fun u v huv => upB_no fun h1 h2 => by
        have := hb i; have := hb (i + 1)
        rcases huv with ⟨rfl, rfl⟩ | ⟨rfl, rfl⟩ <;> omega
    · exact no fun i => rayI_none fun u v huv => upB_no fun h1 h2 => by
        have := hb i; have := hb (i + 1)
        rcases huv with ⟨rfl, rfl⟩ | ⟨rfl, rfl⟩ <;> omega

/-- Twice the area, with its sign, and as a number of 64 bits. -/
def crs (a b : Pnt) : Int := (a.1 + 1073741824) * (b.2 + 1073741824) - (a.2 + 1073741824) * (b.1 + 1073741824)
def areaS (n : Nat) (P : Int → Pnt) : Int := sumTo (fun i => crs (P i) (P (i + 1))) n
def twiceI (s : Int) : Int := if 9223372036854775808 < s % 18446744073709551616 then 18446744073709551616 - s % 18446744073709551616 else s % 18446744073709551616
theorem twiceI_neg (s : Int) : twiceI (-s) = twiceI s := by unfold twiceI; split <;> split <;> omega
theorem crs_swap (a b : Pnt) : crs b a = -crs a b := by
  unfold crs
  rw [Int.mul_comm (b.1 + _), Int.mul_comm (b.2 + _)]; omega
theorem sumTo_neg (f : Int → Int) : ∀ n : Nat, sumTo (fun i => -f i) n = -sumTo f n
  | 0 => rfl
  | n + 1 => by rw [sumTo_succ, sumTo_succ, sumTo_neg f n]; omega
theorem sumTo_add (f g : Int → Int) : ∀ n : Nat, sumTo (fun i => f i + g i) n = sumTo f n + sumTo g n
  | 0 => rfl
  | n + 1 => by rw [sumTo_succ, sumTo_succ, sumTo_succ, sumTo_add f g n]; omega
theorem sumTo_tele (g : Int → Int) : ∀ n : Nat, sumTo (fun i => g (i + 1) - g i) n = g n - g 0
  | 0 => by simp [sumTo]
  | n + 1 => by rw [sumTo_succ, sumTo_tele g n, show ((n + 1 : Nat) : Int) = (n : Int) + 1 by omega]; omega
theorem areaS_shift {n : Nat} {P : Int → Pnt} (hp : ∀ j, P (j + n) = P j) (m : Nat) : areaS n (fun j => P (j + m)) = areaS n P := by
  have := sumTo_shift (f := fun i => crs (P i) (P (i + 1))) n (fun j => by show crs (P (j + n)) (P (j + n + 1)) = _; rw [hp, show j + (n : Int) + 1 = j + 1 + n by omega, hp]) m
  unfold areaS
  rw [← this]
  exact sumTo_congr n fun i _ => by show crs (P (i + m)) (P (i + 1 + m)) = crs (P (i + m)) (P (i + m + 1)); rw [show (i : Int) + 1 + m = i + m + 1 by omega]
theorem areaS_turn {n : Nat} {P : Int → Pnt} (hp : ∀ j, P (j + n) = P j) : areaS n (fun j => P (-1 - j)) = -areaS n P := by
  have h1 := sumTo_back (fun i => crs (P i) (P (i + 1))) n
  have h2 := sumTo_shift (f := fun j => crs (P (n - 1 - j)) (P (n - 1 - j + 1))) n (fun j => by show crs (P (n - 1 - (j + n))) (P (n - 1 - (j + n) + 1)) = _; rw [← hp, ← hp (n - 1 - (j + n) + 1), show (n : Int) - 1 - (j + n) + n = n - 1 - j by omega, show (n : Int) - 1 - (j + n) + 1 + n = n - 1 - j + 1 by omega]) 1
  unfold areaS
  rw [← h1, ← h2, ← sumTo_neg]
  refine sumTo_congr n fun i _ => ?_
  show crs (P (-1 - i)) (P (-1 - (i + 1))) = -crs (P (n - 1 - (i + (1 : Nat)))) (P (n - 1 - (i + (1 : Nat)) + 1))
  rw [← crs_swap, ← hp (-1 - (i + 1)), ← hp (-1 - i)]
  congr 2 <;> omega
theorem crs_move (a b d : Pnt) : crs (addP a d) (addP b d) = crs a b + ((d.1 * (b.2 + 1073741824) - d.2 * (b.1 + 1073741824)) - (d.1 * (a.2 + 1073741824) - d.2 * (a.1 + 1073741824))) := by
  unfold crs addP
  show (a.1 + d.1 + 1073741824) * (b.2 + d.2 + 1073741824) - (a.2 + d.2 + 1073741824) * (b.1 + d.1 + 1073741824) = _
  have e1 : (a.1 + d.1 + 1073741824) * (b.2 + d.2 + 1073741824) = (a.1 + 1073741824) * (b.2 + 1073741824) + d.1 * (b.2 + 1073741824) + (a.1 + 1073741824) * d.2 + d.1 * d.2 := by
    rw [show a.1 + d.1 + 1073741824 = a.1 + 1073741824 + d.1 by omega, show b.2 + d.2 + 1073741824 = b.2 + 1073741824 + d.2 by omega, Int.add_mul, Int.mul_add, Int.mul_add d.1]; omega
  have e2 : (a.2 + d.2 + 1073741824) * (b.1 + d.1 + 1073741824) = (a.2 + 1073741824) * (b.1 + 1073741824) + d.2 * (b.1 + 1073741824) + (a.2 + 1073741824) * d.1 + d.2 * d.1 := by
    rw [show a.2 + d.2 + 1073741824 = a.2 + 1073741824 + d.2 by omega, show b.1 + d.1 + 1073741824 = b.1 + 1073741824 + d.1 by omega, Int.add_mul, Int.mul_add, Int.mul_add d.2]; omega
  rw [e1, e2, Int.mul_comm d.2 d.1, Int.mul_comm (a.1 + 1073741824) d.2, Int.mul_comm (a.2 + 1073741824) d.1]
  omega
theorem areaS_move {n : Nat} {P : Int → Pnt} (hp : ∀ j, P (j + n) = P j) (d : Pnt) : areaS n (fun j => addP (P j) d) = areaS n P := by
  have e0 := hp 0
  rw [Int.zero_add] at e0
  have h := sumTo_tele (fun i => d.1 * ((P i).2 + 1073741824) - d.2 * ((P i).1 + 1073741824)) n
  rw [e0, Int.sub_self] at h
  unfold areaS
  have e : sumTo (fun i => crs (addP (P i) d) (addP (P (i + 1)) d)) n = sumTo (fun i => crs (P i) (P (i + 1)) + ((d.1 * ((P (i + 1)).2 + 1073741824) - d.2 * ((P (i + 1)).1 + 1073741824)) - (d.1 * ((P i).2 + 1073741824) - d.2 * ((P i).1 + 1073741824)))) n := sumTo_congr n fun i _ => crs_move ..
  rw [e, sumTo_add, h, Int.add_zero]
end Go.Proofs.Ythakngphffoooaa.Pl
namespace Go.Proofs.Ythakngphffoooaa.Pl
open Go.Proofs.Ythakngphffoooaa.Pt Go.Proofs.Ythakngphffoooaa.Rc

theorem dvd_near {n : Nat} {x : Int} (h1 : -(n : Int) < x) (h2 : x < (n : Int)) : (n : Int) ∣ x ↔ x = 0 := by
  constructor
  · rintro ⟨q, rfl⟩
    rcases Int.lt_trichotomy q 0 with h | h | h
    · have : (n : Int) * q ≤ (n : Int) * (-1) := Int.mul_le_mul_of_nonneg_left (by omega) (by omega)
      omega
    · rw [h, Int.mul_zero]
    · have : (n : Int) * 1 ≤ (n : Int) * q := Int.mul_le_mul_of_nonneg_left (by omega) (by omega)
      omega
  · rintro rfl; exact Int.dvd_zero _
theorem dvd_round {n : Nat} {x : Int} (q : Int) : (n : Int) ∣ x + (n : Int) * q ↔ (n : Int) ∣ x :=
  ⟨fun h => by have := Int.dvd_sub h (Int.dvd_mul_right (n : Int) q); rwa [Int.add_sub_cancel] at this, fun h => Int.dvd_add h (Int.dvd_mul_right _ _)⟩
/-- The one behind i. -/
theorem succ_mod {n i : Nat} (h : i < n) : (i + 1) % n = if i + 1 = n then 0 else i + 1 := by
  split
  · rename_i e; rw [e, Nat.mod_self]
  · exact Nat.mod_eq_of_lt (by omega)
theorem dvd_next {n i k : Nat} (hi : i < n) (hk : k < n) : (n : Int) ∣ ((k : Int) - i - 1) ↔ k = (i + 1) % n := by
  rw [succ_mod hi]
  by_cases e : i + 1 = n
  · rw [if_pos e, show (k : Int) - i - 1 = (k : Int) + (n : Int) * (-1) by omega, dvd_round, dvd_near (by omega) (by omega)]; omega
  · rw [if_neg e, dvd_near (by omega) (by omega)]; omega

/-- What is asked of a list's points: first each by itself, then each edge. -/
def OwnL (l : List Pnt) (i : Nat) : Prop := pmay (at_ l i) = true ∧ ∀ k : Nat, k < i → at_ l i ≠ at_ l k
def EdgeL (l : List Pnt) (i : Nat) : Prop := onP (at_ l i) (at_ l (i + 1)) (at_ l (i + 2)) = false ∧ onP (at_ l (i + 1)) (at_ l (i + 2)) (at_ l i) = false ∧
  ∀ k : Nat, k < l.length → k ≠ i → k ≠ (i + 1) % l.length → i ≠ (k + 1) % l.length → crossP (at_ l i) (at_ l (i + 1)) (at_ l k) (at_ l (k + 1)) = false
theorem simpleQ_of {l : List Pnt} (hl : 0 < l.length) (h1 : ∀ i : Nat, i < l.length → OwnL l i) (h2 : ∀ i : Nat, i < l.length → EdgeL l i) : SimpleQ l.length (at_ l) where
  may i := by
    obtain ⟨r, q, hr, rfl⟩ := parts_of l.length hl i
    rw [at_per]; exact (h1 r hr).1
  own i k hd := by
    obtain ⟨r, q, hr, rfl⟩ := parts_of l.length hl i
    obtain ⟨s, u, hs, rfl⟩ := parts_of l.length hl k
    rw [at_per, at_per]
    rw [show (r : Int) + (l.length : Int) * q - ((s : Int) + (l.length : Int) * u) = (r : Int) - s + (l.length : Int) * (q - u) by rw [Int.mul_sub]; omega, dvd_round, dvd_near (by omega) (by omega)] at hd
    rcases Nat.lt_trichotomy r s with h | h | h
    · exact fun e => (h1 s hs).2 r h e.symm
    · omega
    · exact (h1 r hr).2 s h
  next i := by
    obtain ⟨r, q, hr, rfl⟩ := parts_of l.length hl i
    rw [show (r : Int) + (l.length : Int) * q + 1 = (r : Int) + 1 + (l.length : Int) * q by omega, show (r : Int) + (l.length : Int) * q + 2 = (r : Int) + 2 + (l.length : Int) * q by omega, at_per, at_per, at_per]
    exact ⟨(h2 r hr).1, (h2 r hr).2.1⟩
  apart i k a b c := by
    obtain ⟨r, q, hr, rfl⟩ := parts_of l.length hl i
    obtain ⟨s, u, hs, rfl⟩ := parts_of l.length hl k
    rw [show (s : Int) + (l.length : Int) * u - ((r : Int) + (l.length : Int) * q) = (s : Int) - r + (l.length : Int) * (u - q) by rw [Int.mul_sub]; omega] at a b
    rw [show (r : Int) + (l.length : Int) * q - ((s : Int) + (l.length : Int) * u) - 1 = (r : Int) - s - 1 + (l.length : Int) * (q - u) by rw [Int.mul_sub]; omega, dvd_round, dvd_next hs hr] at c
    rw [dvd_round, dvd_near (by omega) (by omega)] at a
    rw [show (s : Int) - r + (l.length : Int) * (u - q) - 1 = (s : Int) - r - 1 + (l.length : Int) * (u - q) by omega, dvd_round, dvd_next hr hs] at b
    rw [show (r : Int) + (l.length : Int) * q + 1 = (r : Int) + 1 + (l.length : Int) * q by omega, show (s : Int) + (l.length : Int) * u + 1 = (s : Int) + 1 + (l.length : Int) * u by omega, at_per, at_per, at_per, at_per]
    exact (h2 r hr).2.2 s hs (by omega) b c
theorem SimpleQ.ownL {l : List Pnt} (h : SimpleQ l.length (at_ l)) {i : Nat} (hi : i < l.length) : OwnL l i :=
  ⟨h.may _, fun k hk => h.own _ _ (by rw [dvd_near (by omega) (by omega)]; omega)⟩
theorem SimpleQ.edgeL {l : List Pnt} (h : SimpleQ l.length (at_ l)) {i : Nat} (hi : i < l.length) : EdgeL l i :=
  ⟨(h.next i).1, (h.next i).2, fun k hk a b c => h.apart i k (by rw [dvd_near (by omega) (by omega)]; omega) (by rw [dvd_next hi hk]; exact b) (by rw [dvd_next hk hi]; exact c)⟩

/-- A simple polygon. -/
def SimpleL (l : List Pnt) : Prop := 3 ≤ l.length ∧ l.length ≤ 64 ∧ SimpleQ l.length (at_ l)
theorem per_len (l : List Pnt) (j : Int) : at_ l (j + l.length) = at_ l j := by
  have := at_per l j 1
  rwa [Int.mul_one] at this
theorem funext_at {l t : List Pnt} {f : Int → Int} (h : ∀ j, at_ t j = at_ l (f j)) : at_ t = fun j => at_ l (f j) := funext h
section
variable {l t : List Pnt}
/-- From whichever vertex on. -/
theorem turned_all {m : Nat} (h3 : 0 < l.length) (hn : t.length = l.length) (h : ∀ (i : Nat) (hi : i < t.length), t[i] = l[(i + m) % l.length]'(Nat.mod_lt _ h3)) :
    (SimpleL l → SimpleL t) ∧ (∀ p, InQ t.length (at_ t) p ↔ InQ l.length (at_ l) p) ∧ areaS t.length (at_ t) = areaS l.length (at_ l) := by
  have e : at_ t = fun j => at_ l (j + m) := funext fun j => at_turned h3 hn h j
  rw [e, hn]
  refine ⟨fun hs => ?_, fun p => InQ.shift (per_len l) m, areaS_shift (per_len l) m⟩
  unfold SimpleL
  rw [e, hn]
  exact ⟨hs.1, hs.2.1, hs.2.2.shift m⟩
/-- Turned round. -/
theorem round_all (h3 : 0 < l.length) (hn : t.length = l.length) (h : ∀ (i : Nat) (hi : i < t.length), t[i] = l[l.length - 1 - i]'(by omega)) :
    (SimpleL l → SimpleL t) ∧ (∀ p, InQ t.length (at_ t) p ↔ InQ l.length (at_ l) p) ∧ areaS t.length (at_ t) = -areaS l.length (at_ l) := by
  have e : at_ t = fun j => at_ l (-1 - j) := funext fun j => at_round h3 hn h j
  rw [e, hn]
  refine ⟨fun hs => ?_, fun p => InQ.turn (per_len l), areaS_turn (per_len l)⟩
  unfold SimpleL
  rw [e, hn]
  exact ⟨hs.1, hs.2.1, hs.2.2.turn (-1)⟩
/-- Moved. -/
theorem moved_all {d : Pnt} (h3 : 0 < l.length) (hn : t.length = l.length) (h : ∀ (i : Nat) (hi : i < t.length), t[i] = addP (l[i]'(by omega)) d) :
    (∀ p, InQ t.length (at_ t) (addP p d) ↔ InQ l.length (at_ l) p) ∧ areaS t.length (at_ t) = areaS l.length (at_ l) := by
  have e : at_ t = fun j => addP (at_ l j) d := funext fun j => at_moved h3 hn h j
  rw [e, hn]
  exact ⟨fun p => InQ.move, areaS_move (per_len l) d⟩
theorem crossP_move (a b c d v : Pnt) : crossP (addP a v) (addP b v) (addP c v) (addP d v) = crossP a b c d := by
  unfold crossP crossB touchB partB addP
  simp only [turnI_move, onB_move]
/-- .. a moved one is simple, too, if its points may be. -/
theorem moved_simple {d : Pnt} (h3 : 0 < l.length) (hn : t.length = l.length) (h : ∀ (i : Nat) (hi : i < t.length), t[i] = addP (l[i]'(by omega)) d) (hm : ∀ p ∈ t, pmay p = true) (hs : SimpleL l) : SimpleL t := by
  have e : at_ t = fun j => addP (at_ l j) d := funext fun j => at_moved h3 hn h j
  refine ⟨by rw [hn]; exact hs.1, by rw [hn]; exact hs.2.1, ?_⟩
  refine ⟨fun i => ?_, fun i k hd => ?_, fun i => ?_, fun i k a b c => ?_⟩
  · obtain ⟨r, q, hr, rfl⟩ := parts_of t.length (by omega) i
    rw [at_of r q hr]; exact hm _ (List.getElem_mem hr)
  · rw [e]
    intro hh
    rw [hn] at hd
    refine hs.2.2.own i k hd ?_
    unfold addP at hh
    simp only [Prod.mk.injEq] at hh
    exact Prod.ext (by omega) (by omega)
  · rw [e]
    show onP (addP _ d) (addP _ d) (addP _ d) = false ∧ onP (addP _ d) (addP _ d) (addP _ d) = false
    rw [onP_move, onP_move]; exact hs.2.2.next i
  · rw [e]
    show crossP (addP _ d) (addP _ d) (addP _ d) (addP _ d) = false
    rw [hn] at a b c
    rw [crossP_move]; exact hs.2.2.apart i k a b c
end
end Go.Proofs.Ythakngphffoooaa.Pl
