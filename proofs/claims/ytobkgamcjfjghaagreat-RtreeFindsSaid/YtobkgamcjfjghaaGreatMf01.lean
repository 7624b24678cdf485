/-
  Cells that are known stay known behind whatever only makes memory: lists of two to eight cells, at any addresses. No program here.
-/
import Derived.Test.YtobkgamcjfjghaaGreatProg
import Derived.WalkKit
import Derived.WalkSpells
import Derived.RowKit3
import Derived.Below
import Derived.Lib.Hide
import Derived.Outline
/-
  The plain arithmetic behind layer 1 (point): no program here. It is proved what ranges, turns, segments and crossings of integers are to each other; conditions are stated at each theorem.
-/
namespace Go.Proofs.YtobkgamcjfjghaaGreat.Pt

/-- A coordinate that may be. -/
def inR (n : Int) : Bool := decide (-1073741824 ≤ n) && decide (n ≤ 1073741824)
theorem inR_iff {n : Int} : inR n = true ↔ -1073741824 ≤ n ∧ n ≤ 1073741824 := by unfold inR; simp
/-- A point that may be. -/
def mayB (x y : Int) : Bool := inR x && inR y
theorem mayB_iff {x y : Int} : mayB x y = true ↔ inR x = true ∧ inR y = true := by unfold mayB; simp

/-- 1, 0 or -1: how two numbers stand to each other. -/
def sgn (p q : Int) : Int := if q < p then 1 else if p < q then -1 else 0
theorem sgn_gt {p q : Int} (h : q < p) : sgn p q = 1 := by unfold sgn; simp [h]
theorem sgn_lt {p q : Int} (h : p < q) : sgn p q = -1 := by unfold sgn; rw [if_neg (by omega), if_pos h]
theorem sgn_eq (p : Int) : sgn p p = 0 := by unfold sgn; simp
theorem sgn_cases (p q : Int) : sgn p q = 1 ∨ sgn p q = -1 ∨ sgn p q = 0 := by unfold sgn; split <;> (try split) <;> simp
theorem sgn_bd (p q : Int) : -1 ≤ sgn p q ∧ sgn p q ≤ 1 := by rcases sgn_cases p q with h | h | h <;> omega
theorem sgn_of_sub {p q r s : Int} (h : p - q = r - s) : sgn p q = sgn r s := by
  unfold sgn
  by_cases h1 : q < p
  · have h2 : s < r := by omega
    simp [h1, h2]
  · have h2 : ¬ s < r := by omega
    by_cases h3 : p < q
    · have h4 : r < s := by omega
      simp [h1, h2, h3, h4]
    · have h4 : ¬ r < s := by omega
      simp [h1, h2, h3, h4]
theorem sgn_of_neg {p q r s : Int} (h : p - q = s - r) : sgn p q = -sgn r s := by
  unfold sgn
  by_cases h1 : q < p
  · have h2 : r < s := by omega
    have h3 : ¬ s < r := by omega
    simp [h1, h2, h3]
  · have h2 : ¬ r < s := by omega
    by_cases h3 : p < q
    · have h4 : s < r := by omega
      simp [h1, h3, h4]
    · have h4 : ¬ s < r := by omega
      simp [h1, h2, h3, h4]

/-- How three points turn. -/
def turnI (ax ay bx b2 cx cy : Int) : Int := sgn ((bx - ax) * (cy - ay)) ((b2 - ay) * (cx - ax))
theorem turnI_bd (ax ay bx b2 cx cy : Int) : -1 ≤ turnI ax ay bx b2 cx cy ∧ turnI ax ay bx b2 cx cy ≤ 1 := sgn_bd _ _
theorem turnI_cases (ax ay bx b2 cx cy : Int) : turnI ax ay bx b2 cx cy = 1 ∨ turnI ax ay bx b2 cx cy = -1 ∨ turnI ax ay bx b2 cx cy = 0 := sgn_cases _ _

theorem mul_bd {x y : Int} (hx1 : -2147483648 ≤ x) (hx2 : x ≤ 2147483648) (hy1 : -2147483648 ≤ y) (hy2 : y ≤ 2147483648) : -4611686018427387904 ≤ x * y ∧ x * y ≤ 4611686018427387904 := by
  have h : (x * y).natAbs ≤ 2147483648 * 2147483648 := by
    rw [Int.natAbs_mul]
    exact Nat.mul_le_mul (by omega) (by omega)
  omega
/-- The two products of a turn of points that may be are within 2^62. -/
theorem prod_bd {p q r s : Int} (hp : inR p = true) (hq : inR q = true) (hr : inR r = true) (hs : inR s = true) : -4611686018427387904 ≤ (p - q) * (r - s) ∧ (p - q) * (r - s) ≤ 4611686018427387904 := by
  rw [inR_iff] at hp hq hr hs
  exact mul_bd (by omega) (by omega) (by omega) (by omega)

/-- Is n between a and b, or one of them? -/
def btw (a b n : Int) : Bool := decide (a ≤ n) && decide (n ≤ b) || decide (b ≤ n) && decide (n ≤ a)
theorem btw_iff {a b n : Int} : btw a b n = true ↔ (a ≤ n ∧ n ≤ b ∨ b ≤ n ∧ n ≤ a) := by unfold btw; simp
theorem btw_no {a b n : Int} (h : ¬ (a ≤ n ∧ n ≤ b ∨ b ≤ n ∧ n ≤ a)) : btw a b n = false := by rw [← Bool.not_eq_true, btw_iff]; exact h
theorem inR_no {n : Int} (h : ¬ (-1073741824 ≤ n ∧ n ≤ 1073741824)) : inR n = false := by rw [← Bool.not_eq_true, inR_iff]; exact h
theorem btw_comm (a b n : Int) : btw a b n = btw b a n := by unfold btw; exact Bool.or_comm _ _
theorem btw_left (a b : Int) : btw a b a = true := by rw [btw_iff]; omega
theorem btw_move (a b n d : Int) : btw (a + d) (b + d) (n + d) = btw a b n := by
  rw [Bool.eq_iff_iff, btw_iff, btw_iff]; omega

/-- Is c in the rectangle of a and b? -/
def boxB (ax ay bx b2 cx cy : Int) : Bool := btw ax bx cx && btw ay b2 cy
/-- Is c on the segment of a and b? -/
def onB (ax ay bx b2 cx cy : Int) : Bool := (turnI ax ay bx b2 cx cy == 0) && boxB ax ay bx b2 cx cy
theorem onB_of_turn {ax ay bx b2 cx cy : Int} (h : (turnI ax ay bx b2 cx cy == 0) = true) : onB ax ay bx b2 cx cy = boxB ax ay bx b2 cx cy := by unfold onB; rw [h]; rfl
theorem onB_of_not {ax ay bx b2 cx cy : Int} (h : (turnI ax ay bx b2 cx cy == 0) = false) : onB ax ay bx b2 cx cy = false := by unfold onB; rw [h]; rfl
/-- Do the segments part each other's ends strictly? -/
def partB (ax ay bx b2 cx cy dx dy : Int) : Bool := decide (turnI ax ay bx b2 cx cy * turnI ax ay bx b2 dx dy < 0)
def touchB (ax ay bx b2 cx cy dx dy : Int) : Bool := onB ax ay bx b2 cx cy || (onB ax ay bx b2 dx dy || (onB cx cy dx dy ax ay || onB cx cy dx dy bx b2))
/-- Do the segments meet? -/
def crossB (ax ay bx b2 cx cy dx dy : Int) : Bool := partB ax ay bx b2 cx cy dx dy && partB cx cy dx dy ax ay bx b2 || touchB ax ay bx b2 cx cy dx dy

theorem turnI_swap (ax ay bx b2 cx cy : Int) : turnI bx b2 ax ay cx cy = -turnI ax ay bx b2 cx cy := by
  unfold turnI
  apply sgn_of_neg
  simp only [Int.sub_mul, Int.mul_sub]
  have e1 := Int.mul_comm ax ay; have e2 := Int.mul_comm bx b2; have e3 := Int.mul_comm ax b2; have e4 := Int.mul_comm bx ay
  have e5 := Int.mul_comm ay cx; have e6 := Int.mul_comm b2 cx; have e7 := Int.mul_comm ay bx; have e8 := Int.mul_comm b2 ax
  omega
theorem turnI_rot (ax ay bx b2 cx cy : Int) : turnI bx b2 cx cy ax ay = turnI ax ay bx b2 cx cy := by
  unfold turnI
  apply sgn_of_sub
  simp only [Int.sub_mul, Int.mul_sub]
  have e1 := Int.mul_comm ax ay; have e2 := Int.mul_comm bx b2; have e3 := Int.mul_comm cx cy
  have e4 := Int.mul_comm ax b2; have e5 := Int.mul_comm ax cy; have e6 := Int.mul_comm bx ay; have e7 := Int.mul_comm bx cy; have e8 := Int.mul_comm cx ay; have e9 := Int.mul_comm cx b2
  omega
theorem turnI_move (ax ay bx b2 cx cy dx dy : Int) : turnI (ax + dx) (ay + dy) (bx + dx) (b2 + dy) (cx + dx) (cy + dy) = turnI ax ay bx b2 cx cy := by
  unfold turnI
  rw [show bx + dx - (ax + dx) = bx - ax by omega, show cy + dy - (ay + dy) = cy - ay by omega, show b2 + dy - (ay + dy) = b2 - ay by omega, show cx + dx - (ax + dx) = cx - ax by omega]
theorem turnI_self (ax ay bx b2 : Int) : turnI ax ay bx b2 ax ay = 0 := by
  unfold turnI
  rw [Int.sub_self, Int.sub_self, Int.mul_zero, Int.mul_zero]; exact sgn_eq 0
theorem onB_swap (ax ay bx b2 cx cy : Int) : onB bx b2 ax ay cx cy = onB ax ay bx b2 cx cy := by
  unfold onB boxB
  rw [turnI_swap, btw_comm bx, btw_comm b2]
  congr 1
  rw [Bool.eq_iff_iff]; simp
theorem onB_left (ax ay bx b2 : Int) : onB ax ay bx b2 ax ay = true := by
  unfold onB boxB; rw [turnI_self, btw_left, btw_left]; rfl
theorem onB_move (ax ay bx b2 cx cy dx dy : Int) : onB (ax + dx) (ay + dy) (bx + dx) (b2 + dy) (cx + dx) (cy + dy) = onB ax ay bx b2 cx cy := by
  unfold onB boxB; rw [turnI_move, btw_move, btw_move]
theorem partB_swap (ax ay bx b2 cx cy dx dy : Int) : partB bx b2 ax ay cx cy dx dy = partB ax ay bx b2 cx cy dx dy := by
  unfold partB
  rw [turnI_swap, turnI_swap ax ay bx b2 dx dy, Int.neg_mul_neg]
theorem partB_comm (ax ay bx b2 cx cy dx dy : Int) : partB ax ay bx b2 dx dy cx cy = partB ax ay bx b2 cx cy dx dy := by
  unfold partB; rw [Int.mul_comm]
/-- Segments that meet do so either way round. -/
theorem crossB_round (ax ay bx b2 cx cy dx dy : Int) : crossB cx cy dx dy bx b2 ax ay = crossB ax ay bx b2 cx cy dx dy := by
  unfold crossB touchB
  rw [partB_comm cx cy dx dy ax ay bx b2, partB_swap ax ay bx b2 cx cy dx dy, onB_swap ax ay bx b2 cx cy, onB_swap ax ay bx b2 dx dy]
  generalize partB ax ay bx b2 cx cy dx dy = p; generalize partB cx cy dx dy ax ay bx b2 = q
  generalize onB ax ay bx b2 cx cy = r; generalize onB ax ay bx b2 dx dy = s; generalize onB cx cy dx dy ax ay = t; generalize onB cx cy dx dy bx b2 = u
  cases p <;> cases q <;> cases r <;> cases s <;> cases t <;> cases u <;> rfl

/-- The other way to say that two turns are each other's opposites, neither of them none. -/
theorem neg_iff_neg_one {p q : Int} (hp : p = 1 ∨ p = -1 ∨ p = 0) (hq : q = 1 ∨ q = -1 ∨ q = 0) : decide (p * q < 0) = (p * q == -1) := by
  rcases hp with rfl | rfl | rfl <;> rcases hq with rfl | rfl | rfl <;> rfl
/-- The document's own form of it. -/
def apartB (ax ay bx b2 cx cy dx dy : Int) : Bool := (turnI ax ay bx b2 cx cy * turnI ax ay bx b2 dx dy == -1) && (turnI cx cy dx dy ax ay * turnI cx cy dx dy bx b2 == -1)
def crossR (ax ay bx b2 cx cy dx dy : Int) : Bool := onB ax ay bx b2 cx cy || (onB ax ay bx b2 dx dy || (onB cx cy dx dy ax ay || (onB cx cy dx dy bx b2 || apartB ax ay bx b2 cx cy dx dy)))
theorem crossR_eq (ax ay bx b2 cx cy dx dy : Int) : crossR ax ay bx b2 cx cy dx dy = crossB ax ay bx b2 cx cy dx dy := by
  unfold crossR crossB touchB apartB partB
  rw [neg_iff_neg_one (turnI_cases ..) (turnI_cases ..), neg_iff_neg_one (turnI_cases ..) (turnI_cases ..)]
  generalize (turnI ax ay bx b2 cx cy * turnI ax ay bx b2 dx dy == -1) = p; generalize (turnI cx cy dx dy ax ay * turnI cx cy dx dy bx b2 == -1) = q
  generalize onB ax ay bx b2 cx cy = r; generalize onB ax ay bx b2 dx dy = s; generalize onB cx cy dx dy ax ay = t; generalize onB cx cy dx dy bx b2 = u
  cases p <;> cases q <;> cases r <;> cases s <;> cases t <;> cases u <;> rfl

/-- May p be moved by d? -/
def addB (px py dx dy : Int) : Bool := mayB px py && (mayB dx dy && mayB (px + dx) (py + dy))
end Go.Proofs.YtobkgamcjfjghaaGreat.Pt
/-
  Contracts of May of layer 1 (point) and of its document's answer, for any point. Memory that was there is left as it was.
-/
namespace Go.Proofs.YtobkgamcjfjghaaGreat.Pt
open Go.RowKit

theorem inRange_any (n : Int) (w : World) : Calls Tryz.prog 54 #[.int .i64 n] w fun e w' => e = .returned (.bool (inR n)) ∧ w = w' := by
  by_cases h1 : -1073741824 ≤ n
  · by_cases h2 : n ≤ 1073741824
    · rw [show inR n = true from inR_iff.2 ⟨h1, h2⟩]
      go_enter Tryz.func54, Tryz.ntmps54
      go_wp2
      go_ret
      exact ⟨rfl, rfl⟩
    · rw [show inR n = false from inR_no (by omega)]
      go_enter Tryz.func54, Tryz.ntmps54
      go_wp2
      go_ret
      exact ⟨rfl, rfl⟩
  · rw [show inR n = false from inR_no (by omega)]
    go_enter Tryz.func54, Tryz.ntmps54
    go_wp2
    go_ret
    exact ⟨rfl, rfl⟩

theorem far_any (n : Int) (w : World) : Calls Tryz.prog 28 #[.int .i64 n] w fun e w' => e = .returned (.bool (!inR n)) ∧ w = w' := by
  by_cases h1 : n < -1073741824
  · rw [show inR n = false from inR_no (by omega)]
    go_enter Tryz.func28, Tryz.ntmps28
    go_wp2
    go_ret
    exact ⟨rfl, rfl⟩
  · by_cases h2 : 1073741824 < n
    · rw [show inR n = false from inR_no (by omega)]
      go_enter Tryz.func28, Tryz.ntmps28
      go_wp2
      go_ret
      exact ⟨rfl, rfl⟩
    · rw [show inR n = true from inR_iff.2 (by omega)]
      go_enter Tryz.func28, Tryz.ntmps28
      go_wp2
      go_ret
      exact ⟨rfl, rfl⟩

theorem bcell {W w1 : World} (hb : Below W.heap.size W w1) : (∀ b o, b < W.heap.size → w1.cell? ⟨b, o, none⟩ = W.cell? ⟨b, o, none⟩) ∧ (∀ b o, b < W.heap.size → w1.frozen? ⟨b, o, none⟩ = W.frozen? ⟨b, o, none⟩) :=
  ⟨fun b o h => hb.cell (p := ⟨b, o, none⟩) h, fun b o h => hb.frozen (p := ⟨b, o, none⟩) h⟩
theorem mayB_bd {x y : Int} (h : mayB x y = true) : inR x = true ∧ inR y = true := mayB_iff.1 h

theorem may_any (x y : Int) (w : World) : Calls Tryz.prog 39 #[.agg #[.int .i64 x, .int .i64 y]] w fun e w' => e = .returned (.bool (mayB x y)) ∧ Below w.heap.size w w' := by
  by_cases h1 : inR x = true
  · rw [show mayB x y = inR y by unfold mayB; rw [h1]; rfl]
    go_enter Tryz.func39, Tryz.ntmps39
    go_wp2_with (go_at_call 54; refine (inRange_any _ _).mono ?_; rintro e w' ⟨rfl, rfl⟩)
    go_ret
    exact ⟨rfl, (Below.refl _ _).alloc (Nat.le_refl _) _⟩
  · have h0 : inR x = false := by simpa using h1
    rw [show mayB x y = false by unfold mayB; rw [h0]; rfl]
    go_enter Tryz.func39, Tryz.ntmps39
    go_wp2_with (go_at_call 54; refine (inRange_any _ _).mono ?_; rintro e w' ⟨rfl, rfl⟩)
    go_ret
    exact ⟨rfl, (Below.refl _ _).alloc (Nat.le_refl _) _⟩

theorem refMay_any (x y : Int) (w : World) : Calls Tryz.prog 16 #[.agg #[.int .i64 x, .int .i64 y]] w fun e w' => e = .returned (.bool (mayB x y)) ∧ Below w.heap.size w w' := by
  by_cases h1 : inR x = true
  · rw [show mayB x y = inR y by unfold mayB; rw [h1]; rfl]
    go_enter Tryz.func16, Tryz.ntmps16
    go_wp2_with (go_at_call 28; refine (far_any _ _).mono ?_; rintro e w' ⟨rfl, rfl⟩)
    go_ret
    exact ⟨by simp, (Below.refl _ _).alloc (Nat.le_refl _) _⟩
  · have h0 : inR x = false := by simpa using h1
    rw [show mayB x y = false by unfold mayB; rw [h0]; rfl]
    go_enter Tryz.func16, Tryz.ntmps16
    go_wp2_with (go_at_call 28; refine (far_any _ _).mono ?_; rintro e w' ⟨rfl, rfl⟩)
    go_ret
    exact ⟨rfl, (Below.refl _ _).alloc (Nat.le_refl _) _⟩
end Go.Proofs.YtobkgamcjfjghaaGreat.Pt
/-
  The plain arithmetic behind layer 2 (rect): no program here. It is proved what rectangles of integers are to each other; conditions are stated at each theorem.
-/
namespace Go.Proofs.YtobkgamcjfjghaaGreat.Rc
open Go.Proofs.YtobkgamcjfjghaaGreat.Pt

/-- The less and the greater of two. -/
def mn (a b : Int) : Int := if b < a then b else a
def mx (a b : Int) : Int := if a < b then b else a
theorem mn_cases (a b : Int) : (mn a b = a ∧ a ≤ b) ∨ (mn a b = b ∧ b < a) := by unfold mn; split <;> omega
theorem mx_cases (a b : Int) : (mx a b = b ∧ a < b) ∨ (mx a b = a ∧ b ≤ a) := by unfold mx; split <;> omega
theorem mn_comm (a b : Int) : mn a b = mn b a := by have := mn_cases a b; have := mn_cases b a; omega
theorem mx_comm (a b : Int) : mx a b = mx b a := by have := mx_cases a b; have := mx_cases b a; omega
theorem mn_min (a b : Int) : min a b = mn a b := by unfold mn; omega
theorem mx_max (a b : Int) : max a b = mx a b := by unfold mx; omega
theorem mx_neg (a b : Int) : -mn (-a) (-b) = mx a b := by have := mn_cases (-a) (-b); have := mx_cases a b; omega
theorem mn_inR {a b : Int} (ha : inR a = true) (hb : inR b = true) : inR (mn a b) = true := by rcases mn_cases a b with h | h <;> rw [h.1] <;> assumption
theorem mx_inR {a b : Int} (ha : inR a = true) (hb : inR b = true) : inR (mx a b) = true := by rcases mx_cases a b with h | h <;> rw [h.1] <;> assumption

/-- Are the sides in order? -/
def ordB (x1 y1 x2 y2 : Int) : Bool := decide (x1 ≤ x2) && decide (y1 ≤ y2)
theorem ordB_iff {x1 y1 x2 y2 : Int} : ordB x1 y1 x2 y2 = true ↔ x1 ≤ x2 ∧ y1 ≤ y2 := by unfold ordB; simp
theorem ordB_no {x1 y1 x2 y2 : Int} (h : ¬ (x1 ≤ x2 ∧ y1 ≤ y2)) : ordB x1 y1 x2 y2 = false := by rw [← Bool.not_eq_true, ordB_iff]; exact h
/-- A rectangle that may be. -/
def rmayB (x1 y1 x2 y2 : Int) : Bool := mayB x1 y1 && (mayB x2 y2 && ordB x1 y1 x2 y2)
theorem rmayB_iff {x1 y1 x2 y2 : Int} : rmayB x1 y1 x2 y2 = true ↔ mayB x1 y1 = true ∧ mayB x2 y2 = true ∧ ordB x1 y1 x2 y2 = true := by unfold rmayB; simp
theorem rmayB_bd {x1 y1 x2 y2 : Int} (h : rmayB x1 y1 x2 y2 = true) : -1073741824 ≤ x1 ∧ x1 ≤ x2 ∧ x2 ≤ 1073741824 ∧ -1073741824 ≤ y1 ∧ y1 ≤ y2 ∧ y2 ≤ 1073741824 := by
  obtain ⟨h1, h2, h3⟩ := rmayB_iff.1 h
  rw [mayB_iff, inR_iff, inR_iff] at h1 h2; rw [ordB_iff] at h3; omega
theorem rmayB_mk {x1 y1 x2 y2 : Int} (h : -1073741824 ≤ x1 ∧ x1 ≤ x2 ∧ x2 ≤ 1073741824 ∧ -1073741824 ≤ y1 ∧ y1 ≤ y2 ∧ y2 ≤ 1073741824) : rmayB x1 y1 x2 y2 = true := by
  rw [rmayB_iff, mayB_iff, mayB_iff, inR_iff, inR_iff, inR_iff, inR_iff, ordB_iff]; omega
/-- Is a point in a rectangle? -/
def inB (x1 y1 x2 y2 px py : Int) : Bool := decide (x1 ≤ px) && (decide (px ≤ x2) && (decide (y1 ≤ py) && decide (py ≤ y2)))
theorem inB_iff {x1 y1 x2 y2 px py : Int} : inB x1 y1 x2 y2 px py = true ↔ x1 ≤ px ∧ px ≤ x2 ∧ y1 ≤ py ∧ py ≤ y2 := by unfold inB; simp
theorem inB_no {x1 y1 x2 y2 px py : Int} (h : ¬ (x1 ≤ px ∧ px ≤ x2 ∧ y1 ≤ py ∧ py ≤ y2)) : inB x1 y1 x2 y2 px py = false := by rw [← Bool.not_eq_true, inB_iff]; exact h
/-- Does the first hold the second? -/
def holdsB (ax1 ay1 ax2 ay2 bx1 by1 bx2 by2 : Int) : Bool := inB ax1 ay1 ax2 ay2 bx1 by1 && inB ax1 ay1 ax2 ay2 bx2 by2
theorem holdsB_iff {ax1 ay1 ax2 ay2 bx1 by1 bx2 by2 : Int} : holdsB ax1 ay1 ax2 ay2 bx1 by1 bx2 by2 = true ↔ inB ax1 ay1 ax2 ay2 bx1 by1 = true ∧ inB ax1 ay1 ax2 ay2 bx2 by2 = true := by unfold holdsB; simp
/-- A rectangle's area. -/
def areaI (x1 y1 x2 y2 : Int) : Int := (x2 - x1) * (y2 - y1)
theorem areaI_bd {x1 y1 x2 y2 : Int} (h : rmayB x1 y1 x2 y2 = true) : 0 ≤ areaI x1 y1 x2 y2 ∧ areaI x1 y1 x2 y2 ≤ 4611686018427387904 := by
  have := rmayB_bd h
  exact ⟨Int.mul_nonneg (by omega) (by omega), (mul_bd (by omega) (by omega) (by omega) (by omega)).2⟩
/-- A rectangle's margin. -/
def marginI (x1 y1 x2 y2 : Int) : Int := x2 - x1 + y2 - y1
theorem marginI_eq (x1 y1 x2 y2 : Int) : marginI x1 y1 x2 y2 = x2 - x1 + (y2 - y1) := by unfold marginI; omega

section
variable {ax1 ay1 ax2 ay2 bx1 by1 bx2 by2 : Int}
/-- A join may be. -/
theorem join_may (ha : rmayB ax1 ay1 ax2 ay2 = true) (hb : rmayB bx1 by1 bx2 by2 = true) : rmayB (mn ax1 bx1) (mn ay1 by1) (mx ax2 bx2) (mx ay2 by2) = true := by
  have := rmayB_bd ha; have := rmayB_bd hb
  have := mn_cases ax1 bx1; have := mn_cases ay1 by1; have := mx_cases ax2 bx2; have := mx_cases ay2 by2
  exact rmayB_mk (by omega)
/-- A join holds both. -/
theorem join_holds1 (ha : rmayB ax1 ay1 ax2 ay2 = true) (hb : rmayB bx1 by1 bx2 by2 = true) : holdsB (mn ax1 bx1) (mn ay1 by1) (mx ax2 bx2) (mx ay2 by2) ax1 ay1 ax2 ay2 = true := by
  have := rmayB_bd ha; have := rmayB_bd hb
  have := mn_cases ax1 bx1; have := mn_cases ay1 by1; have := mx_cases ax2 bx2; have := mx_cases ay2 by2
  rw [holdsB_iff, inB_iff, inB_iff]; omega
theorem join_holds2 (ha : rmayB ax1 ay1 ax2 ay2 = true) (hb : rmayB bx1 by1 bx2 by2 = true) : holdsB (mn ax1 bx1) (mn ay1 by1) (mx ax2 bx2) (mx ay2 by2) bx1 by1 bx2 by2 = true := by
  have := rmayB_bd ha; have := rmayB_bd hb
  have := mn_cases ax1 bx1; have := mn_cases ay1 by1; have := mx_cases ax2 bx2; have := mx_cases ay2 by2
  rw [holdsB_iff, inB_iff, inB_iff]; omega
/-- Its area is no less. -/
theorem join_grows (ha : rmayB ax1 ay1 ax2 ay2 = true) (hb : rmayB bx1 by1 bx2 by2 = true) : areaI ax1 ay1 ax2 ay2 ≤ areaI (mn ax1 bx1) (mn ay1 by1) (mx ax2 bx2) (mx ay2 by2) := by
  have := rmayB_bd ha; have := rmayB_bd hb
  have := mn_cases ax1 bx1; have := mn_cases ay1 by1; have := mx_cases ax2 bx2; have := mx_cases ay2 by2
  exact Int.mul_le_mul (by omega) (by omega) (by omega) (by omega)
/-- A meet, where the sides are in order, may be, and is held by both. -/
theorem meet_may (ha : rmayB ax1 ay1 ax2 ay2 = true) (hb : rmayB bx1 by1 bx2 by2 = true) (ho : ordB (mx ax1 bx1) (mx ay1 by1) (mn ax2 bx2) (mn ay2 by2) = true) : rmayB (mx ax1 bx1) (mx ay1 by1) (mn ax2 bx2) (mn ay2 by2) = true := by
  have := rmayB_bd ha; have := rmayB_bd hb; rw [ordB_iff] at ho
  have := mx_cases ax1 bx1; have := mx_cases ay1 by1; have := mn_cases ax2 bx2; have := mn_cases ay2 by2
  exact rmayB_mk (by omega)
theorem meet_held1 (ha : rmayB ax1 ay1 ax2 ay2 = true) (hb : rmayB bx1 by1 bx2 by2 = true) (ho : ordB (mx ax1 bx1) (mx ay1 by1) (mn ax2 bx2) (mn ay2 by2) = true) : holdsB ax1 ay1 ax2 ay2 (mx ax1 bx1) (mx ay1 by1) (mn ax2 bx2) (mn ay2 by2) = true := by
  have := rmayB_bd ha; have := rmayB_bd hb; rw [ordB_iff] at ho
  have := mx_cases ax1 bx1; have := mx_cases ay1 by1; have := mn_cases ax2 bx2; have := mn_cases ay2 by2
  rw [holdsB_iff, inB_iff, inB_iff]; omega
theorem meet_held2 (ha : rmayB ax1 ay1 ax2 ay2 = true) (hb : rmayB bx1 by1 bx2 by2 = true) (ho : ordB (mx ax1 bx1) (mx ay1 by1) (mn ax2 bx2) (mn ay2 by2) = true) : holdsB bx1 by1 bx2 by2 (mx ax1 bx1) (mx ay1 by1) (mn ax2 bx2) (mn ay2 by2) = true := by
  have := rmayB_bd ha; have := rmayB_bd hb; rw [ordB_iff] at ho
  have := mx_cases ax1 bx1; have := mx_cases ay1 by1; have := mn_cases ax2 bx2; have := mn_cases ay2 by2
  rw [holdsB_iff, inB_iff, inB_iff]; omega
/-- What is in both is in the meet, and in the join. -/
theorem in_meet (px py : Int) : (inB ax1 ay1 ax2 ay2 px py && inB bx1 by1 bx2 by2 px py) = inB (mx ax1 bx1) (mx ay1 by1) (mn ax2 bx2) (mn ay2 by2) px py := by
  have := mx_cases ax1 bx1; have := mx_cases ay1 by1; have := mn_cases ax2 bx2; have := mn_cases ay2 by2
  rw [Bool.eq_iff_iff, Bool.and_eq_true, inB_iff, inB_iff, inB_iff]; omega
theorem in_order {x1 y1 x2 y2 px py : Int} (h : ordB x1 y1 x2 y2 = false) : inB x1 y1 x2 y2 px py = false := by
  apply inB_no; intro hc
  have : ordB x1 y1 x2 y2 = true := ordB_iff.2 (by omega)
  rw [h] at this; cases this
theorem in_join {px py : Int} (h : inB ax1 ay1 ax2 ay2 px py = true) (h' : inB bx1 by1 bx2 by2 px py = true) : inB (mn ax1 bx1) (mn ay1 by1) (mx ax2 bx2) (mx ay2 by2) px py = true := by
  have := mn_cases ax1 bx1; have := mn_cases ay1 by1; have := mx_cases ax2 bx2; have := mx_cases ay2 by2
  rw [inB_iff] at h h' ⊢; omega
end
end Go.Proofs.YtobkgamcjfjghaaGreat.Rc
/-
  Contracts of Join of layer 2 (rect), and of the document's answers In, less and more. Memory that was there is left as it was.
-/
namespace Go.Proofs.YtobkgamcjfjghaaGreat.Rc
open Go.RowKit Go.Proofs.YtobkgamcjfjghaaGreat.Pt

theorem less_any (a b : Int) (w : World) : Calls Tryz.prog 46 #[.int .i64 a, .int .i64 b] w fun e w' => e = .returned (.int .i64 (mn a b)) ∧ w = w' := by
  go_enter Tryz.func46, Tryz.ntmps46
  go_wp2
  all_goals (go_ret; exact ⟨by simp [mn, *] <;> omega, rfl⟩)

theorem more_any (a b : Int) (w : World) (ha : inR a = true) (hb : inR b = true) : Calls Tryz.prog 45 #[.int .i64 a, .int .i64 b] w fun e w' => e = .returned (.int .i64 (mx a b)) ∧ w = w' := by
  have h1 := inR_iff.1 ha; have h2 := inR_iff.1 hb
  have h3 := mn_cases (-a) (-b)
  have h4 : -9223372036854775808 < mn (-a) (-b) ∧ mn (-a) (-b) < 9223372036854775808 := by omega
  rw [← mx_neg a b]
  obtain ⟨_, _⟩ := h1; obtain ⟨_, _⟩ := h2; obtain ⟨_, _⟩ := h4
  clear h3 ha hb
  go_enter Tryz.func45, Tryz.ntmps45
  go_wp2_with (go_at_call 46; refine (less_any _ _ _).mono ?_; rintro e w' ⟨rfl, rfl⟩)
  go_ret
  exact ⟨rfl, rfl⟩

theorem run_mn (P : Program) (ts : Array TypeId) (t : TypeId) (x y : Int) (W : World) : (Builtin.min_ ts t #[.int .i64 x, .int .i64 y]).run P W = .ok (.int .i64 (mn x y)) W := run_min_int2 W ts t .i64 .i64 x y
theorem run_mx (P : Program) (ts : Array TypeId) (t : TypeId) (x y : Int) (W : World) : (Builtin.max_ ts t #[.int .i64 x, .int .i64 y]).run P W = .ok (.int .i64 (mx x y)) W := run_max_int2 W ts t .i64 .i64 x y

theorem join_any (ax1 ay1 ax2 ay2 bx1 by1 bx2 by2 : Int) (w : World) : Calls Tryz.prog 49 #[.agg #[.int .i64 ax1, .int .i64 ay1, .int .i64 ax2, .int .i64 ay2], .agg #[.int .i64 bx1, .int .i64 by1, .int .i64 bx2, .int .i64 by2]] w fun e w' => e = .returned (.agg #[.int .i64 (mn ax1 bx1), .int .i64 (mn ay1 by1), .int .i64 (mx ax2 bx2), .int .i64 (mx ay2 by2)]) ∧ Below w.heap.size w w' := by
  have hn := run_mn Tryz.prog
  have hx := run_mx Tryz.prog
  go_enter Tryz.func49, Tryz.ntmps49
  go_wp2
  refine bodyPost_ret (v := .agg #[.int .i64 (mn ax1 bx1), .int .i64 (mn ay1 by1), .int .i64 (mx ax2 bx2), .int .i64 (mx ay2 by2)]) (by simp [results, Tryz.results49, go_sem]) rfl ⟨rfl, ?_⟩
  exact (((Below.refl _ _).alloc (Nat.le_refl _) _).alloc (by simp) _).alloc (by simp; omega) _
end Go.Proofs.YtobkgamcjfjghaaGreat.Rc
/-
  Contracts of In and single of layer 2 (rect). Memory that was there is left as it was.
-/
namespace Go.Proofs.YtobkgamcjfjghaaGreat.Rc
open Go.RowKit Go.Proofs.YtobkgamcjfjghaaGreat.Pt

theorem in_any (x1 y1 x2 y2 px py : Int) (w : World) : Calls Tryz.prog 32 #[.agg #[.int .i64 x1, .int .i64 y1, .int .i64 x2, .int .i64 y2], .agg #[.int .i64 px, .int .i64 py]] w fun e w' => e = .returned (.bool (inB x1 y1 x2 y2 px py)) ∧ Below w.heap.size w w' := by
  go_enter Tryz.func32, Tryz.ntmps32
  go_wp2
  all_goals (go_ret; exact ⟨by simp [inB, *] <;> omega, ((Below.refl _ _).alloc (Nat.le_refl _) _).alloc (by simp) _⟩)

end Go.Proofs.YtobkgamcjfjghaaGreat.Rc
/-
  Contracts of inOrder, low and high of layer 2 (rect). Memory that was there is left as it was.
-/
namespace Go.Proofs.YtobkgamcjfjghaaGreat.Rc
open Go.RowKit Go.Proofs.YtobkgamcjfjghaaGreat.Pt

theorem inOrder_any (x1 y1 x2 y2 : Int) (w : World) : Calls Tryz.prog 42 #[.agg #[.int .i64 x1, .int .i64 y1, .int .i64 x2, .int .i64 y2]] w fun e w' => e = .returned (.bool (ordB x1 y1 x2 y2)) ∧ Below w.heap.size w w' := by
  go_enter Tryz.func42, Tryz.ntmps42
  go_wp2
  all_goals (go_ret; exact ⟨by simp [ordB, *] <;> omega, (Below.refl _ _).alloc (Nat.le_refl _) _⟩)

theorem low_any (x1 y1 x2 y2 : Int) (w : World) : Calls Tryz.prog 40 #[.agg #[.int .i64 x1, .int .i64 y1, .int .i64 x2, .int .i64 y2]] w fun e w' => e = .returned (.agg #[.int .i64 x1, .int .i64 y1]) ∧ Below w.heap.size w w' := by
  go_enter Tryz.func40, Tryz.ntmps40
  go_wp2
  refine bodyPost_ret (v := .agg #[.int .i64 x1, .int .i64 y1]) (by simp [results, Tryz.results40, go_sem]) rfl ⟨rfl, ?_⟩
  exact ((Below.refl _ _).alloc (Nat.le_refl _) _).alloc (by simp) _

theorem high_any (x1 y1 x2 y2 : Int) (w : World) : Calls Tryz.prog 41 #[.agg #[.int .i64 x1, .int .i64 y1, .int .i64 x2, .int .i64 y2]] w fun e w' => e = .returned (.agg #[.int .i64 x2, .int .i64 y2]) ∧ Below w.heap.size w w' := by
  go_enter Tryz.func41, Tryz.ntmps41
  go_wp2
  refine bodyPost_ret (v := .agg #[.int .i64 x2, .int .i64 y2]) (by simp [results, Tryz.results41, go_sem]) rfl ⟨rfl, ?_⟩
  exact ((Below.refl _ _).alloc (Nat.le_refl _) _).alloc (by simp) _
end Go.Proofs.YtobkgamcjfjghaaGreat.Rc
/-
  Contracts of the small functions of layer 2 (rect) and of their document's answers. Memory that was there is left as it was.
-/
namespace Go.Proofs.YtobkgamcjfjghaaGreat.Rc
open Go.RowKit Go.Proofs.YtobkgamcjfjghaaGreat.Pt

theorem area_any (x1 y1 x2 y2 : Int) (w : World) (h : rmayB x1 y1 x2 y2 = true) : Calls Tryz.prog 112 #[.agg #[.int .i64 x1, .int .i64 y1, .int .i64 x2, .int .i64 y2]] w fun e w' => e = .returned (.int .i64 (areaI x1 y1 x2 y2)) ∧ Below w.heap.size w w' := by
  obtain ⟨_, _⟩ := areaI_bd h
  obtain ⟨_, _, _, _, _, _⟩ := rmayB_bd h
  clear h
  unfold areaI at *
  go_enter Tryz.func112, Tryz.ntmps112
  go_wp2
  go_ret
  exact ⟨rfl, (Below.refl _ _).alloc (Nat.le_refl _) _⟩

theorem margin_any (x1 y1 x2 y2 : Int) (w : World) (h : rmayB x1 y1 x2 y2 = true) : Calls Tryz.prog 110 #[.agg #[.int .i64 x1, .int .i64 y1, .int .i64 x2, .int .i64 y2]] w fun e w' => e = .returned (.int .i64 (marginI x1 y1 x2 y2)) ∧ Below w.heap.size w w' := by
  obtain ⟨_, _, _, _, _, _⟩ := rmayB_bd h
  clear h
  rw [marginI_eq]
  go_enter Tryz.func110, Tryz.ntmps110
  go_wp2
  go_ret
  exact ⟨rfl, (Below.refl _ _).alloc (Nat.le_refl _) _⟩
end Go.Proofs.YtobkgamcjfjghaaGreat.Rc
namespace Go.Proofs.YtobkgamcjfjghaaGreat.Kp
open Go.RowKit

variable {w W w1 : World} {N : Nat} {a0 a1 a2 a3 a4 a5 a6 a7 a8 a9 a10 a11 a12 a13 : Addr} {v0 v1 v2 v3 v4 v5 v6 v7 v8 v9 v10 v11 v12 v13 : Value}

theorem ends (hb : Below W.heap.size W w1) (h : N ≤ W.heap.size ∧ Below N w W) : N ≤ w1.heap.size ∧ Below N w w1 :=
  ⟨Nat.le_trans h.1 hb.size, h.2.trans (hb.mono h.1)⟩
theorem one {P P' : Prop} (hb : Below W.heap.size W w1) (f : P → P') (h : W.cell? a0 = some v0 ∧ P) : w1.cell? a0 = some v0 ∧ P' := ⟨cell_later hb h.1, f h.2⟩
theorem two {P P' : Prop} (hb : Below W.heap.size W w1) (f : P → P') (h : W.cell? a0 = some v0 ∧ W.cell? a1 = some v1 ∧ P) : w1.cell? a0 = some v0 ∧ w1.cell? a1 = some v1 ∧ P' := one hb (one hb f) h

theorem keep2 (hb : Below W.heap.size W w1) (h : W.cell? a0 = some v0 ∧ W.cell? a1 = some v1 ∧ N ≤ W.heap.size ∧ Below N w W) :
    w1.cell? a0 = some v0 ∧ w1.cell? a1 = some v1 ∧ N ≤ w1.heap.size ∧ Below N w w1 := two hb (ends hb) h
theorem keep4 (hb : Below W.heap.size W w1) (h : W.cell? a0 = some v0 ∧ W.cell? a1 = some v1 ∧ W.cell? a2 = some v2 ∧ W.cell? a3 = some v3 ∧ N ≤ W.heap.size ∧ Below N w W) :
    w1.cell? a0 = some v0 ∧ w1.cell? a1 = some v1 ∧ w1.cell? a2 = some v2 ∧ w1.cell? a3 = some v3 ∧ N ≤ w1.heap.size ∧ Below N w w1 := two hb (two hb (ends hb)) h
theorem keep6 (hb : Below W.heap.size W w1) (h : W.cell? a0 = some v0 ∧ W.cell? a1 = some v1 ∧ W.cell? a2 = some v2 ∧ W.cell? a3 = some v3 ∧ W.cell? a4 = some v4 ∧ W.cell? a5 = some v5 ∧ N ≤ W.heap.size ∧ Below N w W) :
    w1.cell? a0 = some v0 ∧ w1.cell? a1 = some v1 ∧ w1.cell? a2 = some v2 ∧ w1.cell? a3 = some v3 ∧ w1.cell? a4 = some v4 ∧ w1.cell? a5 = some v5 ∧ N ≤ w1.heap.size ∧ Below N w w1 := two hb (two hb (two hb (ends hb))) h
theorem keep8 (hb : Below W.heap.size W w1) (h : W.cell? a0 = some v0 ∧ W.cell? a1 = some v1 ∧ W.cell? a2 = some v2 ∧ W.cell? a3 = some v3 ∧ W.cell? a4 = some v4 ∧ W.cell? a5 = some v5 ∧ W.cell? a6 = some v6 ∧ W.cell? a7 = some v7 ∧ N ≤ W.heap.size ∧ Below N w W) :
    w1.cell? a0 = some v0 ∧ w1.cell? a1 = some v1 ∧ w1.cell? a2 = some v2 ∧ w1.cell? a3 = some v3 ∧ w1.cell? a4 = some v4 ∧ w1.cell? a5 = some v5 ∧ w1.cell? a6 = some v6 ∧ w1.cell? a7 = some v7 ∧ N ≤ w1.heap.size ∧ Below N w w1 := two hb (two hb (two hb (two hb (ends hb)))) h

/-- A new block of two cells; its number is b. -/
theorem fresh (W : World) (b : Nat) (e : W.heap.size = b) (x y : Value) (t : TypeId) : (W.alloc (.cells #[x, y] t)).cell? ⟨b, 0, none⟩ = some x ∧ (W.alloc (.cells #[x, y] t)).cell? ⟨b, 1, none⟩ = some y := by
  subst e; constructor <;> simp [go_sem]
theorem behind (W : World) (o : Obj) : Below W.heap.size W (W.alloc o) := (Below.refl _ _).alloc (Nat.le_refl _) _
theorem add0 (h : N ≤ W.heap.size ∧ Below N w W) (b : Nat) (e : W.heap.size = b) (x y : Value) (t : TypeId) :
    (W.alloc (.cells #[x, y] t)).cell? ⟨b, 0, none⟩ = some x ∧ (W.alloc (.cells #[x, y] t)).cell? ⟨b, 1, none⟩ = some y ∧ N ≤ (W.alloc (.cells #[x, y] t)).heap.size ∧ Below N w (W.alloc (.cells #[x, y] t)) :=
  ⟨(fresh W b e x y t).1, (fresh W b e x y t).2, ends (behind ..) h⟩
theorem add2 (h : W.cell? a0 = some v0 ∧ W.cell? a1 = some v1 ∧ N ≤ W.heap.size ∧ Below N w W) (b : Nat) (e : W.heap.size = b) (x y : Value) (t : TypeId) :
    (W.alloc (.cells #[x, y] t)).cell? a0 = some v0 ∧ (W.alloc (.cells #[x, y] t)).cell? a1 = some v1 ∧ (W.alloc (.cells #[x, y] t)).cell? ⟨b, 0, none⟩ = some x ∧ (W.alloc (.cells #[x, y] t)).cell? ⟨b, 1, none⟩ = some y
      ∧ N ≤ (W.alloc (.cells #[x, y] t)).heap.size ∧ Below N w (W.alloc (.cells #[x, y] t)) := two (behind ..) (fun h => add0 h b e x y t) h
theorem add4 (h : W.cell? a0 = some v0 ∧ W.cell? a1 = some v1 ∧ W.cell? a2 = some v2 ∧ W.cell? a3 = some v3 ∧ N ≤ W.heap.size ∧ Below N w W) (b : Nat) (e : W.heap.size = b) (x y : Value) (t : TypeId) :
    (W.alloc (.cells #[x, y] t)).cell? a0 = some v0 ∧ (W.alloc (.cells #[x, y] t)).cell? a1 = some v1 ∧ (W.alloc (.cells #[x, y] t)).cell? a2 = some v2 ∧ (W.alloc (.cells #[x, y] t)).cell? a3 = some v3
      ∧ (W.alloc (.cells #[x, y] t)).cell? ⟨b, 0, none⟩ = some x ∧ (W.alloc (.cells #[x, y] t)).cell? ⟨b, 1, none⟩ = some y
      ∧ N ≤ (W.alloc (.cells #[x, y] t)).heap.size ∧ Below N w (W.alloc (.cells #[x, y] t)) := two (behind ..) (two (behind ..) (fun h => add0 h b e x y t)) h
theorem add6 (h : W.cell? a0 = some v0 ∧ W.cell? a1 = some v1 ∧ W.cell? a2 = some v2 ∧ W.cell? a3 = some v3 ∧ W.cell? a4 = some v4 ∧ W.cell? a5 = some v5 ∧ N ≤ W.heap.size ∧ Below N w W) (b : Nat) (e : W.heap.size = b) (x y : Value) (t : TypeId) :
    (W.alloc (.cells #[x, y] t)).cell? a0 = some v0 ∧ (W.alloc (.cells #[x, y] t)).cell? a1 = some v1 ∧ (W.alloc (.cells #[x, y] t)).cell? a2 = some v2 ∧ (W.alloc (.cells #[x, y] t)).cell? a3 = some v3 ∧ (W.alloc (.cells #[x, y] t)).cell? a4 = some v4 ∧ (W.alloc (.cells #[x, y] t)).cell? a5 = some v5
      ∧ (W.alloc (.cells #[x, y] t)).cell? ⟨b, 0, none⟩ = some x ∧ (W.alloc (.cells #[x, y] t)).cell? ⟨b, 1, none⟩ = some y
      ∧ N ≤ (W.alloc (.cells #[x, y] t)).heap.size ∧ Below N w (W.alloc (.cells #[x, y] t)) := two (behind ..) (two (behind ..) (two (behind ..) (fun h => add0 h b e x y t))) h

/-- A draw moves no cell. -/
theorem drew8 (h : W.cell? a0 = some v0 ∧ W.cell? a1 = some v1 ∧ W.cell? a2 = some v2 ∧ W.cell? a3 = some v3 ∧ W.cell? a4 = some v4 ∧ W.cell? a5 = some v5 ∧ W.cell? a6 = some v6 ∧ W.cell? a7 = some v7 ∧ N ≤ W.heap.size ∧ Below N w W) :
    W.drew.cell? a0 = some v0 ∧ W.drew.cell? a1 = some v1 ∧ W.drew.cell? a2 = some v2 ∧ W.drew.cell? a3 = some v3 ∧ W.drew.cell? a4 = some v4 ∧ W.drew.cell? a5 = some v5 ∧ W.drew.cell? a6 = some v6 ∧ W.drew.cell? a7 = some v7 ∧ N ≤ W.drew.heap.size ∧ Below N w W.drew :=
  ⟨h.1, h.2.1, h.2.2.1, h.2.2.2.1, h.2.2.2.2.1, h.2.2.2.2.2.1, h.2.2.2.2.2.2.1, h.2.2.2.2.2.2.2.1, h.2.2.2.2.2.2.2.2.1, h.2.2.2.2.2.2.2.2.2.drew⟩
theorem end2 {p0 p1 p2 : Prop} (h : p0 ∧ p1 ∧ p2 ∧ Below N w W) : Below N w W := h.2.2.2
theorem end4 {p0 p1 p2 p3 p4 : Prop} (h : p0 ∧ p1 ∧ p2 ∧ p3 ∧ p4 ∧ Below N w W) : Below N w W := h.2.2.2.2.2
theorem end6 {p0 p1 p2 p3 p4 p5 p6 : Prop} (h : p0 ∧ p1 ∧ p2 ∧ p3 ∧ p4 ∧ p5 ∧ p6 ∧ Below N w W) : Below N w W := h.2.2.2.2.2.2.2
theorem end8 {p0 p1 p2 p3 p4 p5 p6 p7 p8 : Prop} (h : p0 ∧ p1 ∧ p2 ∧ p3 ∧ p4 ∧ p5 ∧ p6 ∧ p7 ∧ p8 ∧ Below N w W) : Below N w W := h.2.2.2.2.2.2.2.2.2
theorem keep10 (hb : Below W.heap.size W w1) (h : W.cell? a0 = some v0 ∧ W.cell? a1 = some v1 ∧ W.cell? a2 = some v2 ∧ W.cell? a3 = some v3 ∧ W.cell? a4 = some v4 ∧ W.cell? a5 = some v5 ∧ W.cell? a6 = some v6 ∧ W.cell? a7 = some v7 ∧ W.cell? a8 = some v8 ∧ W.cell? a9 = some v9 ∧ N ≤ W.heap.size ∧ Below N w W) :
    w1.cell? a0 = some v0 ∧ w1.cell? a1 = some v1 ∧ w1.cell? a2 = some v2 ∧ w1.cell? a3 = some v3 ∧ w1.cell? a4 = some v4 ∧ w1.cell? a5 = some v5 ∧ w1.cell? a6 = some v6 ∧ w1.cell? a7 = some v7 ∧ w1.cell? a8 = some v8 ∧ w1.cell? a9 = some v9 ∧ N ≤ w1.heap.size ∧ Below N w w1 := two hb (two hb (two hb (two hb (two hb (ends hb))))) h
theorem keep12 (hb : Below W.heap.size W w1) (h : W.cell? a0 = some v0 ∧ W.cell? a1 = some v1 ∧ W.cell? a2 = some v2 ∧ W.cell? a3 = some v3 ∧ W.cell? a4 = some v4 ∧ W.cell? a5 = some v5 ∧ W.cell? a6 = some v6 ∧ W.cell? a7 = some v7 ∧ W.cell? a8 = some v8 ∧ W.cell? a9 = some v9 ∧ W.cell? a10 = some v10 ∧ W.cell? a11 = some v11 ∧ N ≤ W.heap.size ∧ Below N w W) :
    w1.cell? a0 = some v0 ∧ w1.cell? a1 = some v1 ∧ w1.cell? a2 = some v2 ∧ w1.cell? a3 = some v3 ∧ w1.cell? a4 = some v4 ∧ w1.cell? a5 = some v5 ∧ w1.cell? a6 = some v6 ∧ w1.cell? a7 = some v7 ∧ w1.cell? a8 = some v8 ∧ w1.cell? a9 = some v9 ∧ w1.cell? a10 = some v10 ∧ w1.cell? a11 = some v11 ∧ N ≤ w1.heap.size ∧ Below N w w1 := two hb (two hb (two hb (two hb (two hb (two hb (ends hb)))))) h
theorem keep14 (hb : Below W.heap.size W w1) (h : W.cell? a0 = some v0 ∧ W.cell? a1 = some v1 ∧ W.cell? a2 = some v2 ∧ W.cell? a3 = some v3 ∧ W.cell? a4 = some v4 ∧ W.cell? a5 = some v5 ∧ W.cell? a6 = some v6 ∧ W.cell? a7 = some v7 ∧ W.cell? a8 = some v8 ∧ W.cell? a9 = some v9 ∧ W.cell? a10 = some v10 ∧ W.cell? a11 = some v11 ∧ W.cell? a12 = some v12 ∧ W.cell? a13 = some v13 ∧ N ≤ W.heap.size ∧ Below N w W) :
    w1.cell? a0 = some v0 ∧ w1.cell? a1 = some v1 ∧ w1.cell? a2 = some v2 ∧ w1.cell? a3 = some v3 ∧ w1.cell? a4 = some v4 ∧ w1.cell? a5 = some v5 ∧ w1.cell? a6 = some v6 ∧ w1.cell? a7 = some v7 ∧ w1.cell? a8 = some v8 ∧ w1.cell? a9 = some v9 ∧ w1.cell? a10 = some v10 ∧ w1.cell? a11 = some v11 ∧ w1.cell? a12 = some v12 ∧ w1.cell? a13 = some v13 ∧ N ≤ w1.heap.size ∧ Below N w w1 := two hb (two hb (two hb (two hb (two hb (two hb (two hb (ends hb))))))) h
theorem add8 (h : W.cell? a0 = some v0 ∧ W.cell? a1 = some v1 ∧ W.cell? a2 = some v2 ∧ W.cell? a3 = some v3 ∧ W.cell? a4 = some v4 ∧ W.cell? a5 = some v5 ∧ W.cell? a6 = some v6 ∧ W.cell? a7 = some v7 ∧ N ≤ W.heap.size ∧ Below N w W) (b : Nat) (e : W.heap.size = b) (x y : Value) (t : TypeId) :
    (W.alloc (.cells #[x, y] t)).cell? a0 = some v0 ∧ (W.alloc (.cells #[x, y] t)).cell? a1 = some v1 ∧ (W.alloc (.cells #[x, y] t)).cell? a2 = some v2 ∧ (W.alloc (.cells #[x, y] t)).cell? a3 = some v3 ∧ (W.alloc (.cells #[x, y] t)).cell? a4 = some v4 ∧ (W.alloc (.cells #[x, y] t)).cell? a5 = some v5 ∧ (W.alloc (.cells #[x, y] t)).cell? a6 = some v6 ∧ (W.alloc (.cells #[x, y] t)).cell? a7 = some v7 ∧ (W.alloc (.cells #[x, y] t)).cell? ⟨b, 0, none⟩ = some x ∧ (W.alloc (.cells #[x, y] t)).cell? ⟨b, 1, none⟩ = some y ∧ N ≤ (W.alloc (.cells #[x, y] t)).heap.size ∧ Below N w (W.alloc (.cells #[x, y] t)) := two (behind ..) (two (behind ..) (two (behind ..) (two (behind ..) (fun h => add0 h b e x y t)))) h
theorem add10 (h : W.cell? a0 = some v0 ∧ W.cell? a1 = some v1 ∧ W.cell? a2 = some v2 ∧ W.cell? a3 = some v3 ∧ W.cell? a4 = some v4 ∧ W.cell? a5 = some v5 ∧ W.cell? a6 = some v6 ∧ W.cell? a7 = some v7 ∧ W.cell? a8 = some v8 ∧ W.cell? a9 = some v9 ∧ N ≤ W.heap.size ∧ Below N w W) (b : Nat) (e : W.heap.size = b) (x y : Value) (t : TypeId) :
    (W.alloc (.cells #[x, y] t)).cell? a0 = some v0 ∧ (W.alloc (.cells #[x, y] t)).cell? a1 = some v1 ∧ (W.alloc (.cells #[x, y] t)).cell? a2 = some v2 ∧ (W.alloc (.cells #[x, y] t)).cell? a3 = some v3 ∧ (W.alloc (.cells #[x, y] t)).cell? a4 = some v4 ∧ (W.alloc (.cells #[x, y] t)).cell? a5 = some v5 ∧ (W.alloc (.cells #[x, y] t)).cell? a6 = some v6 ∧ (W.alloc (.cells #[x, y] t)).cell? a7 = some v7 ∧ (W.alloc (.cells #[x, y] t)).cell? a8 = some v8 ∧ (W.alloc (.cells #[x, y] t)).cell? a9 = some v9 ∧ (W.alloc (.cells #[x, y] t)).cell? ⟨b, 0, none⟩ = some x ∧ (W.alloc (.cells #[x, y] t)).cell? ⟨b, 1, none⟩ = some y ∧ N ≤ (W.alloc (.cells #[x, y] t)).heap.size ∧ Below N w (W.alloc (.cells #[x, y] t)) := two (behind ..) (two (behind ..) (two (behind ..) (two (behind ..) (two (behind ..) (fun h => add0 h b e x y t))))) h
theorem add12 (h : W.cell? a0 = some v0 ∧ W.cell? a1 = some v1 ∧ W.cell? a2 = some v2 ∧ W.cell? a3 = some v3 ∧ W.cell? a4 = some v4 ∧ W.cell? a5 = some v5 ∧ W.cell? a6 = some v6 ∧ W.cell? a7 = some v7 ∧ W.cell? a8 = some v8 ∧ W.cell? a9 = some v9 ∧ W.cell? a10 = some v10 ∧ W.cell? a11 = some v11 ∧ N ≤ W.heap.size ∧ Below N w W) (b : Nat) (e : W.heap.size = b) (x y : Value) (t : TypeId) :
    (W.alloc (.cells #[x, y] t)).cell? a0 = some v0 ∧ (W.alloc (.cells #[x, y] t)).cell? a1 = some v1 ∧ (W.alloc (.cells #[x, y] t)).cell? a2 = some v2 ∧ (W.alloc (.cells #[x, y] t)).cell? a3 = some v3 ∧ (W.alloc (.cells #[x, y] t)).cell? a4 = some v4 ∧ (W.alloc (.cells #[x, y] t)).cell? a5 = some v5 ∧ (W.alloc (.cells #[x, y] t)).cell? a6 = some v6 ∧ (W.alloc (.cells #[x, y] t)).cell? a7 = some v7 ∧ (W.alloc (.cells #[x, y] t)).cell? a8 = some v8 ∧ (W.alloc (.cells #[x, y] t)).cell? a9 = some v9 ∧ (W.alloc (.cells #[x, y] t)).cell? a10 = some v10 ∧ (W.alloc (.cells #[x, y] t)).cell? a11 = some v11 ∧ (W.alloc (.cells #[x, y] t)).cell? ⟨b, 0, none⟩ = some x ∧ (W.alloc (.cells #[x, y] t)).cell? ⟨b, 1, none⟩ = some y ∧ N ≤ (W.alloc (.cells #[x, y] t)).heap.size ∧ Below N w (W.alloc (.cells #[x, y] t)) := two (behind ..) (two (behind ..) (two (behind ..) (two (behind ..) (two (behind ..) (two (behind ..) (fun h => add0 h b e x y t)))))) h
theorem drewEnds (h : N ≤ W.heap.size ∧ Below N w W) : N ≤ W.drew.heap.size ∧ Below N w W.drew := ⟨h.1, h.2.drew⟩
theorem drewTwo {P P' : Prop} (f : P → P') (h : W.cell? a0 = some v0 ∧ W.cell? a1 = some v1 ∧ P) : W.drew.cell? a0 = some v0 ∧ W.drew.cell? a1 = some v1 ∧ P' := ⟨h.1, h.2.1, f h.2.2⟩
theorem drew2 (h : W.cell? a0 = some v0 ∧ W.cell? a1 = some v1 ∧ N ≤ W.heap.size ∧ Below N w W) :
    W.drew.cell? a0 = some v0 ∧ W.drew.cell? a1 = some v1 ∧ N ≤ W.drew.heap.size ∧ Below N w W.drew := drewTwo (drewEnds) h
theorem drew4 (h : W.cell? a0 = some v0 ∧ W.cell? a1 = some v1 ∧ W.cell? a2 = some v2 ∧ W.cell? a3 = some v3 ∧ N ≤ W.heap.size ∧ Below N w W) :
    W.drew.cell? a0 = some v0 ∧ W.drew.cell? a1 = some v1 ∧ W.drew.cell? a2 = some v2 ∧ W.drew.cell? a3 = some v3 ∧ N ≤ W.drew.heap.size ∧ Below N w W.drew := drewTwo (drewTwo (drewEnds)) h
theorem drew6 (h : W.cell? a0 = some v0 ∧ W.cell? a1 = some v1 ∧ W.cell? a2 = some v2 ∧ W.cell? a3 = some v3 ∧ W.cell? a4 = some v4 ∧ W.cell? a5 = some v5 ∧ N ≤ W.heap.size ∧ Below N w W) :
    W.drew.cell? a0 = some v0 ∧ W.drew.cell? a1 = some v1 ∧ W.drew.cell? a2 = some v2 ∧ W.drew.cell? a3 = some v3 ∧ W.drew.cell? a4 = some v4 ∧ W.drew.cell? a5 = some v5 ∧ N ≤ W.drew.heap.size ∧ Below N w W.drew := drewTwo (drewTwo (drewTwo (drewEnds))) h
theorem drew10 (h : W.cell? a0 = some v0 ∧ W.cell? a1 = some v1 ∧ W.cell? a2 = some v2 ∧ W.cell? a3 = some v3 ∧ W.cell? a4 = some v4 ∧ W.cell? a5 = some v5 ∧ W.cell? a6 = some v6 ∧ W.cell? a7 = some v7 ∧ W.cell? a8 = some v8 ∧ W.cell? a9 = some v9 ∧ N ≤ W.heap.size ∧ Below N w W) :
    W.drew.cell? a0 = some v0 ∧ W.drew.cell? a1 = some v1 ∧ W.drew.cell? a2 = some v2 ∧ W.drew.cell? a3 = some v3 ∧ W.drew.cell? a4 = some v4 ∧ W.drew.cell? a5 = some v5 ∧ W.drew.cell? a6 = some v6 ∧ W.drew.cell? a7 = some v7 ∧ W.drew.cell? a8 = some v8 ∧ W.drew.cell? a9 = some v9 ∧ N ≤ W.drew.heap.size ∧ Below N w W.drew := drewTwo (drewTwo (drewTwo (drewTwo (drewTwo (drewEnds))))) h
theorem drew12 (h : W.cell? a0 = some v0 ∧ W.cell? a1 = some v1 ∧ W.cell? a2 = some v2 ∧ W.cell? a3 = some v3 ∧ W.cell? a4 = some v4 ∧ W.cell? a5 = some v5 ∧ W.cell? a6 = some v6 ∧ W.cell? a7 = some v7 ∧ W.cell? a8 = some v8 ∧ W.cell? a9 = some v9 ∧ W.cell? a10 = some v10 ∧ W.cell? a11 = some v11 ∧ N ≤ W.heap.size ∧ Below N w W) :
    W.drew.cell? a0 = some v0 ∧ W.drew.cell? a1 = some v1 ∧ W.drew.cell? a2 = some v2 ∧ W.drew.cell? a3 = some v3 ∧ W.drew.cell? a4 = some v4 ∧ W.drew.cell? a5 = some v5 ∧ W.drew.cell? a6 = some v6 ∧ W.drew.cell? a7 = some v7 ∧ W.drew.cell? a8 = some v8 ∧ W.drew.cell? a9 = some v9 ∧ W.drew.cell? a10 = some v10 ∧ W.drew.cell? a11 = some v11 ∧ N ≤ W.drew.heap.size ∧ Below N w W.drew := drewTwo (drewTwo (drewTwo (drewTwo (drewTwo (drewTwo (drewEnds)))))) h
theorem drew14 (h : W.cell? a0 = some v0 ∧ W.cell? a1 = some v1 ∧ W.cell? a2 = some v2 ∧ W.cell? a3 = some v3 ∧ W.cell? a4 = some v4 ∧ W.cell? a5 = some v5 ∧ W.cell? a6 = some v6 ∧ W.cell? a7 = some v7 ∧ W.cell? a8 = some v8 ∧ W.cell? a9 = some v9 ∧ W.cell? a10 = some v10 ∧ W.cell? a11 = some v11 ∧ W.cell? a12 = some v12 ∧ W.cell? a13 = some v13 ∧ N ≤ W.heap.size ∧ Below N w W) :
    W.drew.cell? a0 = some v0 ∧ W.drew.cell? a1 = some v1 ∧ W.drew.cell? a2 = some v2 ∧ W.drew.cell? a3 = some v3 ∧ W.drew.cell? a4 = some v4 ∧ W.drew.cell? a5 = some v5 ∧ W.drew.cell? a6 = some v6 ∧ W.drew.cell? a7 = some v7 ∧ W.drew.cell? a8 = some v8 ∧ W.drew.cell? a9 = some v9 ∧ W.drew.cell? a10 = some v10 ∧ W.drew.cell? a11 = some v11 ∧ W.drew.cell? a12 = some v12 ∧ W.drew.cell? a13 = some v13 ∧ N ≤ W.drew.heap.size ∧ Below N w W.drew := drewTwo (drewTwo (drewTwo (drewTwo (drewTwo (drewTwo (drewTwo (drewEnds))))))) h
theorem end10 {p0 p1 p2 p3 p4 p5 p6 p7 p8 p9 p10 : Prop} (h : p0 ∧ p1 ∧ p2 ∧ p3 ∧ p4 ∧ p5 ∧ p6 ∧ p7 ∧ p8 ∧ p9 ∧ p10 ∧ Below N w W) : Below N w W := h.2.2.2.2.2.2.2.2.2.2.2
theorem end12 {p0 p1 p2 p3 p4 p5 p6 p7 p8 p9 p10 p11 p12 : Prop} (h : p0 ∧ p1 ∧ p2 ∧ p3 ∧ p4 ∧ p5 ∧ p6 ∧ p7 ∧ p8 ∧ p9 ∧ p10 ∧ p11 ∧ p12 ∧ Below N w W) : Below N w W := h.2.2.2.2.2.2.2.2.2.2.2.2.2
theorem end14 {p0 p1 p2 p3 p4 p5 p6 p7 p8 p9 p10 p11 p12 p13 p14 : Prop} (h : p0 ∧ p1 ∧ p2 ∧ p3 ∧ p4 ∧ p5 ∧ p6 ∧ p7 ∧ p8 ∧ p9 ∧ p10 ∧ p11 ∧ p12 ∧ p13 ∧ p14 ∧ Below N w W) : Below N w W := h.2.2.2.2.2.2.2.2.2.2.2.2.2.2.2
end Go.Proofs.YtobkgamcjfjghaaGreat.Kp
