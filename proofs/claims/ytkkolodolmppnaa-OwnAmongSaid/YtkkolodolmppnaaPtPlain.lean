/-
  The plain arithmetic behind layer 1 (point): no program here. It is proved what ranges, turns, segments and crossings of integers are to each other; conditions are stated at each theorem.
-/
namespace Go.Proofs.Ytkkolodolmppnaa.Pt

/-- A coordinate that may be. -/
def inR (n : Int) : Bool := decide (-1073741824 ≤ n) && decide (n ≤ 1073741824)
theorem inR_iff {n : Int} : inR n = true ↔ -1073741824 ≤ n ∧ n ≤ 1073741824 := by unfold inR; simp
/-- A point that may be. -/
def mayB (x y : Int) : Bool := inR x && inR y
theorem mayB_iff {x y : Int} : mayB x y = true ↔ inR x = true ∧ inR y = true := by unfold mayB; simp

/-- 1, 0 or -1: how two numbers stand to each other. -/
def sgn (p q : Int) : Int := if q < p then 1 else if p < q then -1 else 0
theorem sgn_gt {p q : Int} (h : q < p) : sgn p q = 1 := by unfold sgn; simp [h]
theorem sgn_lt {p q : Int} (h : p < q) : sgn p q = -1 := by unfold sgn; rw [if_neg (by omega), if_pos h]
theorem sgn_eq (p : Int) : sgn p p = 0 := by unfold sgn; simp
theorem sgn_cases (p q : Int) : sgn p q = 1 ∨ sgn p q = -1 ∨ sgn p q = 0 := by unfold sgn; split <;> (try split) <;> simp
theorem sgn_bd (p q : Int) : -1 ≤ sgn p q ∧ sgn p q ≤ 1 := by rcases sgn_cases p q with h | h | h <;> omega
theorem sgn_of_sub {p q r s : Int} (h : p - q = r - s) : sgn p q = sgn r s := by
  unfold sgn
  by_cases h1 : q < p
  · have h2 : s < r := by omega
    simp [h1, h2]
  · have h2 : ¬ s < r := by omega
    by_cases h3 : p < q
    · have h4 : r < s := by omega
      simp [h1, h2, h3, h4]
    · have h4 : ¬ r < s := by omega
      simp [h1, h2, h3, h4]
theorem sgn_of_neg {p q r s : Int} (h : p - q = s - r) : sgn p q = -sgn r s := by
  unfold sgn
  by_cases h1 : q < p
  · have h2 : r < s := by omega
    have h3 : ¬ s < r := by omega
    simp [h1, h2, h3]
  · have h2 : ¬ r < s := by omega
    by_cases h3 : p < q
    · have h4 : s < r := by omega
      simp [h1, h3, h4]
    · have h4 : ¬ s < r := by omega
      simp [h1, h2, h3, h4]

/-- How three points turn. -/
def turnI (ax ay bx b2 cx cy : Int) : Int := sgn ((bx - ax) * (cy - ay)) ((b2 - ay) * (cx - ax))
theorem turnI_bd (ax ay bx b2 cx cy : Int) : -1 ≤ turnI ax ay bx b2 cx cy ∧ turnI ax ay bx b2 cx cy ≤ 1 := sgn_bd _ _
theorem turnI_cases (ax ay bx b2 cx cy : Int) : turnI ax ay bx b2 cx cy = 1 ∨ turnI ax ay bx b2 cx cy = -1 ∨ turnI ax ay bx b2 cx cy = 0 := sgn_cases _ _

theorem mul_bd {x y : Int} (hx1 : -2147483648 ≤ x) (hx2 : x ≤ 2147483648) (hy1 : -2147483648 ≤ y) (hy2 : y ≤ 2147483648) : -4611686018427387904 ≤ x * y ∧ x * y ≤ 4611686018427387904 := by
  have h : (x * y).natAbs ≤ 2147483648 * 2147483648 := by
    rw [Int.natAbs_mul]
    exact Nat.mul_le_mul (by omega) (by omega)
  omega
/-- The two products of a turn of points that may be are within 2^62. -/
theorem prod_bd {p q r s : Int} (hp : inR p = true) (hq : inR q = true) (hr : inR r = true) (hs : inR s = true) : -4611686018427387904 ≤ (p - q) * (r - s) ∧ (p - q) * (r - s) ≤ 4611686018427387904 := by
  rw [inR_iff] at hp hq hr hs
  exact mul_bd (by omega) (by omega) (by omega) (by omega)

/-- Is n between a and b, or one of them? -/
def btw (a b n : Int) : Bool := decide (a ≤ n) && decide (n ≤ b) || decide (b ≤ n) && decide (n ≤ a)
theorem btw_iff {a b n : Int} : btw a b n = true ↔ (a ≤ n ∧ n ≤ b ∨ b ≤ n ∧ n ≤ a) := by unfold btw; simp
theorem btw_no {a b n : Int} (h : ¬ (a ≤ n ∧ n ≤ b ∨ b ≤ n ∧ n ≤ a)) : btw a b n = false := by rw [← Bool.not_eq_true, btw_iff]; exact h
theorem inR_no {n : Int} (h : ¬ (-1073741824 ≤ n ∧ n ≤ 1073741824)) : inR n = false := by rw [← Bool.not_eq_true, inR_iff]; exact h
theorem btw_comm (a b n : Int) : btw a b n = btw b a n := by unfold btw; exact Bool.or_comm _ _
theorem btw_left (a b : Int) : btw a b a = true := by rw [btw_iff]; omega
theorem btw_move (a b n d : Int) : btw (a + d) (b + d) (n + d) = btw a b n := by
  rw [Bool.eq_iff_iff, btw_iff, btw_iff]; omega

/-- Is c in the rectangle of a and b? -/
def boxB (ax ay bx b2 cx cy : Int) : Bool := btw ax bx cx && btw ay b2 cy
/-- Is c on the segment of a and b? -/
def onB (ax ay bx b2 cx cy : Int) : Bool := (turnI ax ay bx b2 cx cy == 0) && boxB ax ay bx b2 cx cy
theorem onB_of_turn {ax ay bx b2 cx cy : Int} (h : (turnI ax ay bx b2 cx cy == 0) = true) : onB ax ay bx b2 cx cy = boxB ax ay bx b2 cx cy := by unfold onB; rw [h]; rfl
theorem onB_of_not {ax ay bx b2 cx cy : Int} (h : (turnI ax ay bx b2 cx cy == 0) = false) : onB ax ay bx b2 cx cy = false := by unfold onB; rw [h]; rfl
/-- Do the segments part each other's ends strictly? -/
def partB (ax ay bx b2 cx cy dx dy : Int) : Bool := decide (turnI ax ay bx b2 cx cy * turnI ax ay bx b2 dx dy < 0)
def touchB (ax ay bx b2 cx cy dx dy : Int) : Bool := onB ax ay bx b2 cx cy || (onB ax ay bx b2 dx dy || (onB cx cy dx dy ax ay || onB cx cy dx dy bx b2))
/-- Do the segments meet? -/
def crossB (ax ay bx b2 cx cy dx dy : Int) : Bool := partB ax ay bx b2 cx cy dx dy && partB cx cy dx dy ax ay bx b2 || touchB ax ay bx b2 cx cy dx dy

theorem turnI_swap (ax ay bx b2 cx cy : Int) : turnI bx b2 ax ay cx cy = -turnI ax ay bx b2 cx cy := by
  unfold turnI
  apply sgn_of_neg
  simp only [Int.sub_mul, Int.mul_sub]
  have e1 := Int.mul_comm ax ay; have e2 := Int.mul_comm bx b2; have e3 := Int.mul_comm ax b2; have e4 := Int.mul_comm bx ay
  have e5 := Int.mul_comm ay cx; have e6 := Int.mul_comm b2 cx; have e7 := Int.mul_comm ay bx; have e8 := Int.mul_comm b2 ax
  omega
theorem turnI_rot (ax ay bx b2 cx cy : Int) : turnI bx b2 cx cy ax ay = turnI ax ay bx b2 cx cy := by
  unfold turnI
  apply sgn_of_sub
  simp only [Int.sub_mul, Int.mul_sub]
  have e1 := Int.mul_comm ax ay; have e2 := Int.mul_comm bx b2; have e3 := Int.mul_comm cx cy
  have e4 := Int.mul_comm ax b2; have e5 := Int.mul_comm ax cy; have e6 := Int.mul_comm bx ay; have e7 := Int.mul_comm bx cy; have e8 := Int.mul_comm cx ay; have e9 := Int.mul_comm cx b2
  omega
theorem turnI_move (ax ay bx b2 cx cy dx dy : Int) : turnI (ax + dx) (ay + dy) (bx + dx) (b2 + dy) (cx + dx) (cy + dy) = turnI ax ay bx b2 cx cy := by
  unfold turnI
  rw [show bx + dx - (ax + dx) = bx - ax by omega, show cy + dy - (ay + dy) = cy - ay by omega, show b2 + dy - (ay + dy) = b2 - ay by omega, show cx + dx - (ax + dx) = cx - ax by omega]
theorem turnI_self (ax ay bx b2 : Int) : turnI ax ay bx b2 ax ay = 0 := by
  unfold turnI
  rw [Int.sub_self, Int.sub_self, Int.mul_zero, Int.mul_zero]; exact sgn_eq 0
theorem onB_swap (ax ay bx b2 cx cy : Int) : onB bx b2 ax ay cx cy = onB ax ay bx b2 cx cy := by
  unfold onB boxB
  rw [turnI_swap, btw_comm bx, btw_comm b2]
  congr 1
  rw [Bool.eq_iff_iff]; simp
theorem onB_left (ax ay bx b2 : Int) : onB ax ay bx b2 ax ay = true := by
  unfold onB boxB; rw [turnI_self, btw_left, btw_left]; rfl
theorem onB_move (ax ay bx b2 cx cy dx dy : Int) : onB (ax + dx) (ay + dy) (bx + dx) (b2 + dy) (cx + dx) (cy + dy) = onB ax ay bx b2 cx cy := by
  unfold onB boxB; rw [turnI_move, btw_move, btw_move]
theorem partB_swap (ax ay bx b2 cx cy dx dy : Int) : partB bx b2 ax ay cx cy dx dy = partB ax ay bx b2 cx cy dx dy := by
  unfold partB
  rw [turnI_swap, turnI_swap ax ay bx b2 dx dy, Int.neg_mul_neg]
theorem partB_comm (ax ay bx b2 cx cy dx dy : Int) : partB ax ay bx b2 dx dy cx cy = partB ax ay bx b2 cx cy dx dy := by
  unfold partB; rw [Int.mul_comm]
/-- Segments that meet do so either way round. -/
theorem crossB_round (ax ay bx b2 cx cy dx dy : Int) : crossB cx cy dx dy bx b2 ax ay = crossB ax ay bx b2 cx cy dx dy := by
  unfold crossB touchB
  rw [partB_comm cx cy dx dy ax ay bx b2, partB_swap ax ay bx b2 cx cy dx dy, onB_swap ax ay bx b2 cx cy, onB_swap ax ay bx b2 dx dy]
  generalize partB ax ay bx b2 cx cy dx dy = p; generalize partB cx cy dx dy ax ay bx b2 = q
  generalize onB ax ay bx b2 cx cy = r; generalize onB ax ay bx b2 dx dy = s; generalize onB cx cy dx dy ax ay = t; generalize onB cx cy dx dy bx b2 = u
  cases p <;> cases q <;> cases r <;> cases s <;> cases t <;> cases u <;> rfl

/-- The other way to say that two turns are each other's opposites, neither of them none. -/
theorem neg_iff_neg_one {p q : Int} (hp : p = 1 ∨ p = -1 ∨ p = 0) (hq : q = 1 ∨ q = -1 ∨ q = 0) : decide (p * q < 0) = (p * q == -1) := by
  rcases hp with rfl | rfl | rfl <;> rcases hq with rfl | rfl | rfl <;> rfl
/-- The document's own form of it. -/
def apartB (ax ay bx b2 cx cy dx dy : Int) : Bool := (turnI ax ay bx b2 cx cy * turnI ax ay bx b2 dx dy == -1) && (turnI cx cy dx dy ax ay * turnI cx cy dx dy bx b2 == -1)
def crossR (ax ay bx b2 cx cy dx dy : Int) : Bool := onB ax ay bx b2 cx cy || (onB ax ay bx b2 dx dy || (onB cx cy dx dy ax ay || (onB cx cy dx dy bx b2 || apartB ax ay bx b2 cx cy dx dy)))
theorem crossR_eq (ax ay bx b2 cx cy dx dy : Int) : crossR ax ay bx b2 cx cy dx dy = crossB ax ay bx b2 cx cy dx dy := by
  unfold crossR crossB touchB apartB partB
  rw [neg_iff_neg_one (turnI_cases ..) (turnI_cases ..), neg_iff_neg_one (turnI_cases ..) (turnI_cases ..)]
  generalize (turnI ax ay bx b2 cx cy * turnI ax ay bx b2 dx dy == -1) = p; generalize (turnI cx cy dx dy ax ay * turnI cx cy dx dy bx b2 == -1) = q
  generalize onB ax ay bx b2 cx cy = r; generalize onB ax ay bx b2 dx dy = s; generalize onB cx cy dx dy ax ay = t; generalize onB cx cy dx dy bx b2 = u
  cases p <;> cases q <;> cases r <;> cases s <;> cases t <;> cases u <;> rfl

/-- May p be moved by d? -/
def addB (px py dx dy : Int) : Bool := mayB px py && (mayB dx dy && mayB (px + dx) (py + dy))
end Go.Proofs.Ytkkolodolmppnaa.Pt
