/-
  Contracts of cmp.Compare, cmp.Or and the small functions of package rsplit: each tells some number. Memory that was there is left as it was.
-/
import Derived.Test.YtobkgamcjfjghaaGreatProg
import Derived.WalkKit
import Derived.WalkSpells
import Derived.RowKit3
import Derived.Below
import Derived.Lib.Hide
import Derived.Outline
import Derived.Deep.RegionHeld3
import Derived.IntWalk
import Derived.Deep.MidRow
import Derived.Deep.QuietTactic
import Derived.BigQuiet
/-
  The plain arithmetic behind layer 1 (point): no program here. It is proved what ranges, turns, segments and crossings of integers are to each other; conditions are stated at each theorem.
-/
namespace Go.Proofs.YtobkgamcjfjghaaGreat.Pt

/-- A coordinate that may be. -/
def inR (n : Int) : Bool := decide (-1073741824 ≤ n) && decide (n ≤ 1073741824)
theorem inR_iff {n : Int} : inR n = true ↔ -1073741824 ≤ n ∧ n ≤ 1073741824 := by unfold inR; simp
/-- A point that may be. -/
def mayB (x y : Int) : Bool := inR x && inR y
theorem mayB_iff {x y : Int} : mayB x y = true ↔ inR x = true ∧ inR y = true := by unfold mayB; simp

/-- 1, 0 or -1: how two numbers stand to each other. -/
def sgn (p q : Int) : Int := if q < p then 1 else if p < q then -1 else 0
/-- How three points turn. -/
def turnI (ax ay bx b2 cx cy : Int) : Int := sgn ((bx - ax) * (cy - ay)) ((b2 - ay) * (cx - ax))
theorem mul_bd {x y : Int} (hx1 : -2147483648 ≤ x) (hx2 : x ≤ 2147483648) (hy1 : -2147483648 ≤ y) (hy2 : y ≤ 2147483648) : -4611686018427387904 ≤ x * y ∧ x * y ≤ 4611686018427387904 := by
  have h : (x * y).natAbs ≤ 2147483648 * 2147483648 := by
    rw [Int.natAbs_mul]
    exact Nat.mul_le_mul (by omega) (by omega)
  omega
/-- Is n between a and b, or one of them? -/
def btw (a b n : Int) : Bool := decide (a ≤ n) && decide (n ≤ b) || decide (b ≤ n) && decide (n ≤ a)
theorem inR_no {n : Int} (h : ¬ (-1073741824 ≤ n ∧ n ≤ 1073741824)) : inR n = false := by rw [← Bool.not_eq_true, inR_iff]; exact h
/-- Is c in the rectangle of a and b? -/
def boxB (ax ay bx b2 cx cy : Int) : Bool := btw ax bx cx && btw ay b2 cy
/-- Is c on the segment of a and b? -/
def onB (ax ay bx b2 cx cy : Int) : Bool := (turnI ax ay bx b2 cx cy == 0) && boxB ax ay bx b2 cx cy
/-- Do the segments part each other's ends strictly? -/
def partB (ax ay bx b2 cx cy dx dy : Int) : Bool := decide (turnI ax ay bx b2 cx cy * turnI ax ay bx b2 dx dy < 0)
def touchB (ax ay bx b2 cx cy dx dy : Int) : Bool := onB ax ay bx b2 cx cy || (onB ax ay bx b2 dx dy || (onB cx cy dx dy ax ay || onB cx cy dx dy bx b2))
/-- Do the segments meet? -/
def crossB (ax ay bx b2 cx cy dx dy : Int) : Bool := partB ax ay bx b2 cx cy dx dy && partB cx cy dx dy ax ay bx b2 || touchB ax ay bx b2 cx cy dx dy

/-- The document's own form of it. -/
def apartB (ax ay bx b2 cx cy dx dy : Int) : Bool := (turnI ax ay bx b2 cx cy * turnI ax ay bx b2 dx dy == -1) && (turnI cx cy dx dy ax ay * turnI cx cy dx dy bx b2 == -1)
def crossR (ax ay bx b2 cx cy dx dy : Int) : Bool := onB ax ay bx b2 cx cy || (onB ax ay bx b2 dx dy || (onB cx cy dx dy ax ay || (onB cx cy dx dy bx b2 || apartB ax ay bx b2 cx cy dx dy)))
/-- May p be moved by d? -/
def addB (px py dx dy : Int) : Bool := mayB px py && (mayB dx dy && mayB (px + dx) (py + dy))
end Go.Proofs.YtobkgamcjfjghaaGreat.Pt
/-
  Contracts of May of layer 1 (point) and of its document's answer, for any point. Memory that was there is left as it was.
-/
namespace Go.Proofs.YtobkgamcjfjghaaGreat.Pt
open Go.RowKit

theorem inRange_any (n : Int) (w : World) : Calls Tryz.prog 54 #[.int .i64 n] w fun e w' => e = .returned (.bool (inR n)) ∧ w = w' := by
  by_cases h1 : -1073741824 ≤ n
  · by_cases h2 : n ≤ 1073741824
    · rw [show inR n = true from inR_iff.2 ⟨h1, h2⟩]
      go_enter Tryz.func54, Tryz.ntmps54
      go_wp2
      go_ret
      exact ⟨rfl, rfl⟩
    · rw [show inR n = false from inR_no (by omega)]
      go_enter Tryz.func54, Tryz.ntmps54
      go_wp2
      go_ret
      exact ⟨rfl, rfl⟩
  · rw [show inR n = false from inR_no (by omega)]
    go_enter Tryz.func54, Tryz.ntmps54
    go_wp2
    go_ret
    exact ⟨rfl, rfl⟩

theorem far_any (n : Int) (w : World) : Calls Tryz.prog 28 #[.int .i64 n] w fun e w' => e = .returned (.bool (!inR n)) ∧ w = w' := by
  by_cases h1 : n < -1073741824
  · rw [show inR n = false from inR_no (by omega)]
    go_enter Tryz.func28, Tryz.ntmps28
    go_wp2
    go_ret
    exact ⟨rfl, rfl⟩
  · by_cases h2 : 1073741824 < n
    · rw [show inR n = false from inR_no (by omega)]
      go_enter Tryz.func28, Tryz.ntmps28
      go_wp2
      go_ret
      exact ⟨rfl, rfl⟩
    · rw [show inR n = true from inR_iff.2 (by omega)]
      go_enter Tryz.func28, Tryz.ntmps28
      go_wp2
      go_ret
      exact ⟨rfl, rfl⟩

theorem bcell {W w1 : World} (hb : Below W.heap.size W w1) : (∀ b o, b < W.heap.size → w1.cell? ⟨b, o, none⟩ = W.cell? ⟨b, o, none⟩) ∧ (∀ b o, b < W.heap.size → w1.frozen? ⟨b, o, none⟩ = W.frozen? ⟨b, o, none⟩) :=
  ⟨fun b o h => hb.cell (p := ⟨b, o, none⟩) h, fun b o h => hb.frozen (p := ⟨b, o, none⟩) h⟩
theorem may_any (x y : Int) (w : World) : Calls Tryz.prog 39 #[.agg #[.int .i64 x, .int .i64 y]] w fun e w' => e = .returned (.bool (mayB x y)) ∧ Below w.heap.size w w' := by
  by_cases h1 : inR x = true
  · rw [show mayB x y = inR y by unfold mayB; rw [h1]; rfl]
    go_enter Tryz.func39, Tryz.ntmps39
    go_wp2_with (go_at_call 54; refine (inRange_any _ _).mono ?_; rintro e w' ⟨rfl, rfl⟩)
    go_ret
    exact ⟨rfl, (Below.refl _ _).alloc (Nat.le_refl _) _⟩
  · have h0 : inR x = false := by simpa using h1
    rw [show mayB x y = false by unfold mayB; rw [h0]; rfl]
    go_enter Tryz.func39, Tryz.ntmps39
    go_wp2_with (go_at_call 54; refine (inRange_any _ _).mono ?_; rintro e w' ⟨rfl, rfl⟩)
    go_ret
    exact ⟨rfl, (Below.refl _ _).alloc (Nat.le_refl _) _⟩

theorem refMay_any (x y : Int) (w : World) : Calls Tryz.prog 16 #[.agg #[.int .i64 x, .int .i64 y]] w fun e w' => e = .returned (.bool (mayB x y)) ∧ Below w.heap.size w w' := by
  by_cases h1 : inR x = true
  · rw [show mayB x y = inR y by unfold mayB; rw [h1]; rfl]
    go_enter Tryz.func16, Tryz.ntmps16
    go_wp2_with (go_at_call 28; refine (far_any _ _).mono ?_; rintro e w' ⟨rfl, rfl⟩)
    go_ret
    exact ⟨by simp, (Below.refl _ _).alloc (Nat.le_refl _) _⟩
  · have h0 : inR x = false := by simpa using h1
    rw [show mayB x y = false by unfold mayB; rw [h0]; rfl]
    go_enter Tryz.func16, Tryz.ntmps16
    go_wp2_with (go_at_call 28; refine (far_any _ _).mono ?_; rintro e w' ⟨rfl, rfl⟩)
    go_ret
    exact ⟨rfl, (Below.refl _ _).alloc (Nat.le_refl _) _⟩
end Go.Proofs.YtobkgamcjfjghaaGreat.Pt
/-
  The plain arithmetic behind layer 2 (rect): no program here. It is proved what rectangles of integers are to each other; conditions are stated at each theorem.
-/
namespace Go.Proofs.YtobkgamcjfjghaaGreat.Rc
open Go.Proofs.YtobkgamcjfjghaaGreat.Pt

/-- The less and the greater of two. -/
def mn (a b : Int) : Int := if b < a then b else a
def mx (a b : Int) : Int := if a < b then b else a
theorem mn_cases (a b : Int) : (mn a b = a ∧ a ≤ b) ∨ (mn a b = b ∧ b < a) := by unfold mn; split <;> omega
theorem mx_cases (a b : Int) : (mx a b = b ∧ a < b) ∨ (mx a b = a ∧ b ≤ a) := by unfold mx; split <;> omega
theorem mn_comm (a b : Int) : mn a b = mn b a := by have := mn_cases a b; have := mn_cases b a; omega
theorem mx_comm (a b : Int) : mx a b = mx b a := by have := mx_cases a b; have := mx_cases b a; omega
theorem mx_neg (a b : Int) : -mn (-a) (-b) = mx a b := by have := mn_cases (-a) (-b); have := mx_cases a b; omega
/-- Are the sides in order? -/
def ordB (x1 y1 x2 y2 : Int) : Bool := decide (x1 ≤ x2) && decide (y1 ≤ y2)
theorem ordB_iff {x1 y1 x2 y2 : Int} : ordB x1 y1 x2 y2 = true ↔ x1 ≤ x2 ∧ y1 ≤ y2 := by unfold ordB; simp
/-- A rectangle that may be. -/
def rmayB (x1 y1 x2 y2 : Int) : Bool := mayB x1 y1 && (mayB x2 y2 && ordB x1 y1 x2 y2)
theorem rmayB_iff {x1 y1 x2 y2 : Int} : rmayB x1 y1 x2 y2 = true ↔ mayB x1 y1 = true ∧ mayB x2 y2 = true ∧ ordB x1 y1 x2 y2 = true := by unfold rmayB; simp
theorem rmayB_bd {x1 y1 x2 y2 : Int} (h : rmayB x1 y1 x2 y2 = true) : -1073741824 ≤ x1 ∧ x1 ≤ x2 ∧ x2 ≤ 1073741824 ∧ -1073741824 ≤ y1 ∧ y1 ≤ y2 ∧ y2 ≤ 1073741824 := by
  obtain ⟨h1, h2, h3⟩ := rmayB_iff.1 h
  rw [mayB_iff, inR_iff, inR_iff] at h1 h2; rw [ordB_iff] at h3; omega
theorem rmayB_mk {x1 y1 x2 y2 : Int} (h : -1073741824 ≤ x1 ∧ x1 ≤ x2 ∧ x2 ≤ 1073741824 ∧ -1073741824 ≤ y1 ∧ y1 ≤ y2 ∧ y2 ≤ 1073741824) : rmayB x1 y1 x2 y2 = true := by
  rw [rmayB_iff, mayB_iff, mayB_iff, inR_iff, inR_iff, inR_iff, inR_iff, ordB_iff]; omega
/-- Is a point in a rectangle? -/
def inB (x1 y1 x2 y2 px py : Int) : Bool := decide (x1 ≤ px) && (decide (px ≤ x2) && (decide (y1 ≤ py) && decide (py ≤ y2)))
theorem inB_iff {x1 y1 x2 y2 px py : Int} : inB x1 y1 x2 y2 px py = true ↔ x1 ≤ px ∧ px ≤ x2 ∧ y1 ≤ py ∧ py ≤ y2 := by unfold inB; simp
/-- Does the first hold the second? -/
def holdsB (ax1 ay1 ax2 ay2 bx1 by1 bx2 by2 : Int) : Bool := inB ax1 ay1 ax2 ay2 bx1 by1 && inB ax1 ay1 ax2 ay2 bx2 by2
theorem holdsB_iff {ax1 ay1 ax2 ay2 bx1 by1 bx2 by2 : Int} : holdsB ax1 ay1 ax2 ay2 bx1 by1 bx2 by2 = true ↔ inB ax1 ay1 ax2 ay2 bx1 by1 = true ∧ inB ax1 ay1 ax2 ay2 bx2 by2 = true := by unfold holdsB; simp
/-- A rectangle's area. -/
def areaI (x1 y1 x2 y2 : Int) : Int := (x2 - x1) * (y2 - y1)
theorem areaI_bd {x1 y1 x2 y2 : Int} (h : rmayB x1 y1 x2 y2 = true) : 0 ≤ areaI x1 y1 x2 y2 ∧ areaI x1 y1 x2 y2 ≤ 4611686018427387904 := by
  have := rmayB_bd h
  exact ⟨Int.mul_nonneg (by omega) (by omega), (mul_bd (by omega) (by omega) (by omega) (by omega)).2⟩
/-- A rectangle's margin. -/
def marginI (x1 y1 x2 y2 : Int) : Int := x2 - x1 + y2 - y1
theorem marginI_eq (x1 y1 x2 y2 : Int) : marginI x1 y1 x2 y2 = x2 - x1 + (y2 - y1) := by unfold marginI; omega

section
variable {ax1 ay1 ax2 ay2 bx1 by1 bx2 by2 : Int}
/-- A join may be. -/
theorem join_may (ha : rmayB ax1 ay1 ax2 ay2 = true) (hb : rmayB bx1 by1 bx2 by2 = true) : rmayB (mn ax1 bx1) (mn ay1 by1) (mx ax2 bx2) (mx ay2 by2) = true := by
  have := rmayB_bd ha; have := rmayB_bd hb
  have := mn_cases ax1 bx1; have := mn_cases ay1 by1; have := mx_cases ax2 bx2; have := mx_cases ay2 by2
  exact rmayB_mk (by omega)
end
end Go.Proofs.YtobkgamcjfjghaaGreat.Rc
/-
  Contracts of Join of layer 2 (rect), and of the document's answers In, less and more. Memory that was there is left as it was.
-/
namespace Go.Proofs.YtobkgamcjfjghaaGreat.Rc
open Go.RowKit Go.Proofs.YtobkgamcjfjghaaGreat.Pt

theorem less_any (a b : Int) (w : World) : Calls Tryz.prog 46 #[.int .i64 a, .int .i64 b] w fun e w' => e = .returned (.int .i64 (mn a b)) ∧ w = w' := by
  go_enter Tryz.func46, Tryz.ntmps46
  go_wp2
  all_goals (go_ret; exact ⟨by simp [mn, *] <;> omega, rfl⟩)

theorem more_any (a b : Int) (w : World) (ha : inR a = true) (hb : inR b = true) : Calls Tryz.prog 45 #[.int .i64 a, .int .i64 b] w fun e w' => e = .returned (.int .i64 (mx a b)) ∧ w = w' := by
  have h1 := inR_iff.1 ha; have h2 := inR_iff.1 hb
  have h3 := mn_cases (-a) (-b)
  have h4 : -9223372036854775808 < mn (-a) (-b) ∧ mn (-a) (-b) < 9223372036854775808 := by omega
  rw [← mx_neg a b]
  obtain ⟨_, _⟩ := h1; obtain ⟨_, _⟩ := h2; obtain ⟨_, _⟩ := h4
  clear h3 ha hb
  go_enter Tryz.func45, Tryz.ntmps45
  go_wp2_with (go_at_call 46; refine (less_any _ _ _).mono ?_; rintro e w' ⟨rfl, rfl⟩)
  go_ret
  exact ⟨rfl, rfl⟩

theorem run_mn (P : Program) (ts : Array TypeId) (t : TypeId) (x y : Int) (W : World) : (Builtin.min_ ts t #[.int .i64 x, .int .i64 y]).run P W = .ok (.int .i64 (mn x y)) W := run_min_int2 W ts t .i64 .i64 x y
theorem run_mx (P : Program) (ts : Array TypeId) (t : TypeId) (x y : Int) (W : World) : (Builtin.max_ ts t #[.int .i64 x, .int .i64 y]).run P W = .ok (.int .i64 (mx x y)) W := run_max_int2 W ts t .i64 .i64 x y

theorem join_any (ax1 ay1 ax2 ay2 bx1 by1 bx2 by2 : Int) (w : World) : Calls Tryz.prog 49 #[.agg #[.int .i64 ax1, .int .i64 ay1, .int .i64 ax2, .int .i64 ay2], .agg #[.int .i64 bx1, .int .i64 by1, .int .i64 bx2, .int .i64 by2]] w fun e w' => e = .returned (.agg #[.int .i64 (mn ax1 bx1), .int .i64 (mn ay1 by1), .int .i64 (mx ax2 bx2), .int .i64 (mx ay2 by2)]) ∧ Below w.heap.size w w' := by
  have hn := run_mn Tryz.prog
  have hx := run_mx Tryz.prog
  go_enter Tryz.func49, Tryz.ntmps49
  go_wp2
  refine bodyPost_ret (v := .agg #[.int .i64 (mn ax1 bx1), .int .i64 (mn ay1 by1), .int .i64 (mx ax2 bx2), .int .i64 (mx ay2 by2)]) (by simp [results, Tryz.results49, go_sem]) rfl ⟨rfl, ?_⟩
  exact (((Below.refl _ _).alloc (Nat.le_refl _) _).alloc (by simp) _).alloc (by simp; omega) _
end Go.Proofs.YtobkgamcjfjghaaGreat.Rc
/-
  Contracts of In and single of layer 2 (rect). Memory that was there is left as it was.
-/
namespace Go.Proofs.YtobkgamcjfjghaaGreat.Rc
open Go.RowKit Go.Proofs.YtobkgamcjfjghaaGreat.Pt

theorem in_any (x1 y1 x2 y2 px py : Int) (w : World) : Calls Tryz.prog 32 #[.agg #[.int .i64 x1, .int .i64 y1, .int .i64 x2, .int .i64 y2], .agg #[.int .i64 px, .int .i64 py]] w fun e w' => e = .returned (.bool (inB x1 y1 x2 y2 px py)) ∧ Below w.heap.size w w' := by
  go_enter Tryz.func32, Tryz.ntmps32
  go_wp2
  all_goals (go_ret; exact ⟨by simp [inB, *] <;> omega, ((Below.refl _ _).alloc (Nat.le_refl _) _).alloc (by simp) _⟩)

end Go.Proofs.YtobkgamcjfjghaaGreat.Rc
/-
  Contracts of inOrder, low and high of layer 2 (rect). Memory that was there is left as it was.
-/
namespace Go.Proofs.YtobkgamcjfjghaaGreat.Rc
open Go.RowKit Go.Proofs.YtobkgamcjfjghaaGreat.Pt

theorem inOrder_any (x1 y1 x2 y2 : Int) (w : World) : Calls Tryz.prog 42 #[.agg #[.int .i64 x1, .int .i64 y1, .int .i64 x2, .int .i64 y2]] w fun e w' => e = .returned (.bool (ordB x1 y1 x2 y2)) ∧ Below w.heap.size w w' := by
  go_enter Tryz.func42, Tryz.ntmps42
  go_wp2
  all_goals (go_ret; exact ⟨by simp [ordB, *] <;> omega, (Below.refl _ _).alloc (Nat.le_refl _) _⟩)

theorem low_any (x1 y1 x2 y2 : Int) (w : World) : Calls Tryz.prog 40 #[.agg #[.int .i64 x1, .int .i64 y1, .int .i64 x2, .int .i64 y2]] w fun e w' => e = .returned (.agg #[.int .i64 x1, .int .i64 y1]) ∧ Below w.heap.size w w' := by
  go_enter Tryz.func40, Tryz.ntmps40
  go_wp2
  refine bodyPost_ret (v := .agg #[.int .i64 x1, .int .i64 y1]) (by simp [results, Tryz.results40, go_sem]) rfl ⟨rfl, ?_⟩
  exact ((Below.refl _ _).alloc (Nat.le_refl _) _).alloc (by simp) _

theorem high_any (x1 y1 x2 y2 : Int) (w : World) : Calls Tryz.prog 41 #[.agg #[.int .i64 x1, .int .i64 y1, .int .i64 x2, .int .i64 y2]] w fun e w' => e = .returned (.agg #[.int .i64 x2, .int .i64 y2]) ∧ Below w.heap.size w w' := by
  go_enter Tryz.func41, Tryz.ntmps41
  go_wp2
  refine bodyPost_ret (v := .agg #[.int .i64 x2, .int .i64 y2]) (by simp [results, Tryz.results41, go_sem]) rfl ⟨rfl, ?_⟩
  exact ((Below.refl _ _).alloc (Nat.le_refl _) _).alloc (by simp) _
end Go.Proofs.YtobkgamcjfjghaaGreat.Rc
/-
  Contracts of the small functions of layer 2 (rect) and of their document's answers. Memory that was there is left as it was.
-/
namespace Go.Proofs.YtobkgamcjfjghaaGreat.Rc
open Go.RowKit Go.Proofs.YtobkgamcjfjghaaGreat.Pt

theorem area_any (x1 y1 x2 y2 : Int) (w : World) (h : rmayB x1 y1 x2 y2 = true) : Calls Tryz.prog 112 #[.agg #[.int .i64 x1, .int .i64 y1, .int .i64 x2, .int .i64 y2]] w fun e w' => e = .returned (.int .i64 (areaI x1 y1 x2 y2)) ∧ Below w.heap.size w w' := by
  obtain ⟨_, _⟩ := areaI_bd h
  obtain ⟨_, _, _, _, _, _⟩ := rmayB_bd h
  clear h
  unfold areaI at *
  go_enter Tryz.func112, Tryz.ntmps112
  go_wp2
  go_ret
  exact ⟨rfl, (Below.refl _ _).alloc (Nat.le_refl _) _⟩

theorem margin_any (x1 y1 x2 y2 : Int) (w : World) (h : rmayB x1 y1 x2 y2 = true) : Calls Tryz.prog 110 #[.agg #[.int .i64 x1, .int .i64 y1, .int .i64 x2, .int .i64 y2]] w fun e w' => e = .returned (.int .i64 (marginI x1 y1 x2 y2)) ∧ Below w.heap.size w w' := by
  obtain ⟨_, _, _, _, _, _⟩ := rmayB_bd h
  clear h
  rw [marginI_eq]
  go_enter Tryz.func110, Tryz.ntmps110
  go_wp2
  go_ret
  exact ⟨rfl, (Below.refl _ _).alloc (Nat.le_refl _) _⟩
end Go.Proofs.YtobkgamcjfjghaaGreat.Rc
/-
  Cells that are known stay known behind whatever only makes memory: lists of two to eight cells, at any addresses. No program here.
-/
namespace Go.Proofs.YtobkgamcjfjghaaGreat.Kp
open Go.RowKit

variable {w W w1 : World} {N : Nat} {a0 a1 a2 a3 a4 a5 a6 a7 a8 a9 a10 a11 a12 a13 : Addr} {v0 v1 v2 v3 v4 v5 v6 v7 v8 v9 v10 v11 v12 v13 : Value}

theorem ends (hb : Below W.heap.size W w1) (h : N ≤ W.heap.size ∧ Below N w W) : N ≤ w1.heap.size ∧ Below N w w1 :=
  ⟨Nat.le_trans h.1 hb.size, h.2.trans (hb.mono h.1)⟩
theorem one {P P' : Prop} (hb : Below W.heap.size W w1) (f : P → P') (h : W.cell? a0 = some v0 ∧ P) : w1.cell? a0 = some v0 ∧ P' := ⟨cell_later hb h.1, f h.2⟩
theorem two {P P' : Prop} (hb : Below W.heap.size W w1) (f : P → P') (h : W.cell? a0 = some v0 ∧ W.cell? a1 = some v1 ∧ P) : w1.cell? a0 = some v0 ∧ w1.cell? a1 = some v1 ∧ P' := one hb (one hb f) h

theorem keep4 (hb : Below W.heap.size W w1) (h : W.cell? a0 = some v0 ∧ W.cell? a1 = some v1 ∧ W.cell? a2 = some v2 ∧ W.cell? a3 = some v3 ∧ N ≤ W.heap.size ∧ Below N w W) :
    w1.cell? a0 = some v0 ∧ w1.cell? a1 = some v1 ∧ w1.cell? a2 = some v2 ∧ w1.cell? a3 = some v3 ∧ N ≤ w1.heap.size ∧ Below N w w1 := two hb (two hb (ends hb)) h
theorem keep8 (hb : Below W.heap.size W w1) (h : W.cell? a0 = some v0 ∧ W.cell? a1 = some v1 ∧ W.cell? a2 = some v2 ∧ W.cell? a3 = some v3 ∧ W.cell? a4 = some v4 ∧ W.cell? a5 = some v5 ∧ W.cell? a6 = some v6 ∧ W.cell? a7 = some v7 ∧ N ≤ W.heap.size ∧ Below N w W) :
    w1.cell? a0 = some v0 ∧ w1.cell? a1 = some v1 ∧ w1.cell? a2 = some v2 ∧ w1.cell? a3 = some v3 ∧ w1.cell? a4 = some v4 ∧ w1.cell? a5 = some v5 ∧ w1.cell? a6 = some v6 ∧ w1.cell? a7 = some v7 ∧ N ≤ w1.heap.size ∧ Below N w w1 := two hb (two hb (two hb (two hb (ends hb)))) h

theorem behind (W : World) (o : Obj) : Below W.heap.size W (W.alloc o) := (Below.refl _ _).alloc (Nat.le_refl _) _
/-- A draw moves no cell. -/
theorem drew8 (h : W.cell? a0 = some v0 ∧ W.cell? a1 = some v1 ∧ W.cell? a2 = some v2 ∧ W.cell? a3 = some v3 ∧ W.cell? a4 = some v4 ∧ W.cell? a5 = some v5 ∧ W.cell? a6 = some v6 ∧ W.cell? a7 = some v7 ∧ N ≤ W.heap.size ∧ Below N w W) :
    W.drew.cell? a0 = some v0 ∧ W.drew.cell? a1 = some v1 ∧ W.drew.cell? a2 = some v2 ∧ W.drew.cell? a3 = some v3 ∧ W.drew.cell? a4 = some v4 ∧ W.drew.cell? a5 = some v5 ∧ W.drew.cell? a6 = some v6 ∧ W.drew.cell? a7 = some v7 ∧ N ≤ W.drew.heap.size ∧ Below N w W.drew :=
  ⟨h.1, h.2.1, h.2.2.1, h.2.2.2.1, h.2.2.2.2.1, h.2.2.2.2.2.1, h.2.2.2.2.2.2.1, h.2.2.2.2.2.2.2.1, h.2.2.2.2.2.2.2.2.1, h.2.2.2.2.2.2.2.2.2.drew⟩
theorem end4 {p0 p1 p2 p3 p4 : Prop} (h : p0 ∧ p1 ∧ p2 ∧ p3 ∧ p4 ∧ Below N w W) : Below N w W := h.2.2.2.2.2
theorem end8 {p0 p1 p2 p3 p4 p5 p6 p7 p8 : Prop} (h : p0 ∧ p1 ∧ p2 ∧ p3 ∧ p4 ∧ p5 ∧ p6 ∧ p7 ∧ p8 ∧ Below N w W) : Below N w W := h.2.2.2.2.2.2.2.2.2
end Go.Proofs.YtobkgamcjfjghaaGreat.Kp
/-
  Cells that are known stay known behind whatever only makes memory: longer lists than in Keep, and new blocks of four cells. No program here.
-/
namespace Go.Proofs.YtobkgamcjfjghaaGreat.Kp
open Go.RowKit

variable {w W w1 : World} {N : Nat} {a0 a1 a2 a3 a4 a5 a6 a7 a8 a9 a10 a11 a12 a13 a14 a15 a16 a17 a18 a19 a20 a21 a22 a23 a24 a25 : Addr} {v0 v1 v2 v3 v4 v5 v6 v7 v8 v9 v10 v11 v12 v13 v14 v15 v16 v17 v18 v19 v20 v21 v22 v23 v24 v25 : Value}

/-- A new block of four cells; its number is b. -/
theorem adq0 (h : N ≤ W.heap.size ∧ Below N w W) (b : Nat) (e : W.heap.size = b) (x y z u : Value) (t : TypeId) :
    (W.alloc (.cells #[x, y, z, u] t)).cell? ⟨b, 0, none⟩ = some x ∧ (W.alloc (.cells #[x, y, z, u] t)).cell? ⟨b, 1, none⟩ = some y ∧ (W.alloc (.cells #[x, y, z, u] t)).cell? ⟨b, 2, none⟩ = some z ∧ (W.alloc (.cells #[x, y, z, u] t)).cell? ⟨b, 3, none⟩ = some u ∧ N ≤ (W.alloc (.cells #[x, y, z, u] t)).heap.size ∧ Below N w (W.alloc (.cells #[x, y, z, u] t)) := by
  subst e
  exact ⟨by simp [go_sem], by simp [go_sem], by simp [go_sem], by simp [go_sem], ends (behind ..) h⟩
theorem adq4 (h : W.cell? a0 = some v0 ∧ W.cell? a1 = some v1 ∧ W.cell? a2 = some v2 ∧ W.cell? a3 = some v3 ∧ N ≤ W.heap.size ∧ Below N w W) (b : Nat) (e : W.heap.size = b) (x y z u : Value) (t : TypeId) :
    (W.alloc (.cells #[x, y, z, u] t)).cell? a0 = some v0 ∧ (W.alloc (.cells #[x, y, z, u] t)).cell? a1 = some v1 ∧ (W.alloc (.cells #[x, y, z, u] t)).cell? a2 = some v2 ∧ (W.alloc (.cells #[x, y, z, u] t)).cell? a3 = some v3 ∧ (W.alloc (.cells #[x, y, z, u] t)).cell? ⟨b, 0, none⟩ = some x ∧ (W.alloc (.cells #[x, y, z, u] t)).cell? ⟨b, 1, none⟩ = some y ∧ (W.alloc (.cells #[x, y, z, u] t)).cell? ⟨b, 2, none⟩ = some z ∧ (W.alloc (.cells #[x, y, z, u] t)).cell? ⟨b, 3, none⟩ = some u ∧ N ≤ (W.alloc (.cells #[x, y, z, u] t)).heap.size ∧ Below N w (W.alloc (.cells #[x, y, z, u] t)) := two (behind ..) (two (behind ..) (fun h => adq0 h b e x y z u t)) h
end Go.Proofs.YtobkgamcjfjghaaGreat.Kp
/-
  Contracts of May of layer 2 (rect), and of the document's answers Rect and Holds. Memory that was there is left as it was.
-/
namespace Go.Proofs.YtobkgamcjfjghaaGreat.Rc
open Go.RowKit Go.Proofs.YtobkgamcjfjghaaGreat.Pt

theorem rmay_any (x1 y1 x2 y2 : Int) (w : World) : Calls Tryz.prog 24 #[.agg #[.int .i64 x1, .int .i64 y1, .int .i64 x2, .int .i64 y2]] w fun e w' => e = .returned (.bool (rmayB x1 y1 x2 y2)) ∧ Below w.heap.size w w' := by
  have L := Kp.adq0 ⟨Nat.le_refl _, Below.refl w.heap.size w⟩ w.heap.size rfl (.int .i64 x1) (.int .i64 y1) (.int .i64 x2) (.int .i64 y2) 26
  cases h1 : mayB x1 y1
  · rw [show rmayB x1 y1 x2 y2 = false by unfold rmayB; rw [h1]; rfl]
    go_enter Tryz.func24, Tryz.ntmps24
    go_wp2_with (first | (go_at_call 40; refine (low_any _ _ _ _ _).mono ?_; rintro e w1 ⟨rfl, hb1⟩; have K1 := Kp.keep4 hb1 (by assumption); clear hb1) | (go_at_call 41; refine (high_any _ _ _ _ _).mono ?_; rintro e w1 ⟨rfl, hb1⟩; have K1 := Kp.keep4 hb1 (by assumption); clear hb1) | (go_at_call 39; refine (may_any _ _ _).mono ?_; rintro e w1 ⟨rfl, hb1⟩; have K1 := Kp.keep4 hb1 (by assumption); clear hb1) | (go_at_call 42; refine (inOrder_any _ _ _ _ _).mono ?_; rintro e w1 ⟨rfl, hb1⟩; have K1 := Kp.keep4 hb1 (by assumption); clear hb1))
    go_ret
    exact ⟨rfl, Kp.end4 (by assumption)⟩
  cases h2 : mayB x2 y2
  · rw [show rmayB x1 y1 x2 y2 = false by unfold rmayB; rw [h1, h2]; rfl]
    go_enter Tryz.func24, Tryz.ntmps24
    go_wp2_with (first | (go_at_call 40; refine (low_any _ _ _ _ _).mono ?_; rintro e w1 ⟨rfl, hb1⟩; have K1 := Kp.keep4 hb1 (by assumption); clear hb1) | (go_at_call 41; refine (high_any _ _ _ _ _).mono ?_; rintro e w1 ⟨rfl, hb1⟩; have K1 := Kp.keep4 hb1 (by assumption); clear hb1) | (go_at_call 39; refine (may_any _ _ _).mono ?_; rintro e w1 ⟨rfl, hb1⟩; have K1 := Kp.keep4 hb1 (by assumption); clear hb1) | (go_at_call 42; refine (inOrder_any _ _ _ _ _).mono ?_; rintro e w1 ⟨rfl, hb1⟩; have K1 := Kp.keep4 hb1 (by assumption); clear hb1))
    go_ret
    exact ⟨rfl, Kp.end4 (by assumption)⟩
  rw [show rmayB x1 y1 x2 y2 = ordB x1 y1 x2 y2 by unfold rmayB; rw [h1, h2]; rfl]
  go_enter Tryz.func24, Tryz.ntmps24
  go_wp2_with (first | (go_at_call 40; refine (low_any _ _ _ _ _).mono ?_; rintro e w1 ⟨rfl, hb1⟩; have K1 := Kp.keep4 hb1 (by assumption); clear hb1) | (go_at_call 41; refine (high_any _ _ _ _ _).mono ?_; rintro e w1 ⟨rfl, hb1⟩; have K1 := Kp.keep4 hb1 (by assumption); clear hb1) | (go_at_call 39; refine (may_any _ _ _).mono ?_; rintro e w1 ⟨rfl, hb1⟩; have K1 := Kp.keep4 hb1 (by assumption); clear hb1) | (go_at_call 42; refine (inOrder_any _ _ _ _ _).mono ?_; rintro e w1 ⟨rfl, hb1⟩; have K1 := Kp.keep4 hb1 (by assumption); clear hb1))
  go_ret
  exact ⟨rfl, Kp.end4 (by assumption)⟩

theorem refRect_any (x1 y1 x2 y2 : Int) (w : World) : Calls Tryz.prog 11 #[.agg #[.int .i64 x1, .int .i64 y1, .int .i64 x2, .int .i64 y2]] w fun e w' => e = .returned (.bool (rmayB x1 y1 x2 y2)) ∧ Below w.heap.size w w' := by
  have L := Kp.adq0 ⟨Nat.le_refl _, Below.refl w.heap.size w⟩ w.heap.size rfl (.int .i64 x1) (.int .i64 y1) (.int .i64 x2) (.int .i64 y2) 26
  cases h1 : mayB x1 y1
  · rw [show rmayB x1 y1 x2 y2 = false by unfold rmayB; rw [h1]; rfl]
    go_enter Tryz.func11, Tryz.ntmps11
    go_wp2_with (go_at_call 16; refine (refMay_any _ _ _).mono ?_; rintro e w1 ⟨rfl, hb1⟩; have K1 := Kp.keep4 hb1 (by assumption); clear hb1)
    go_ret
    exact ⟨rfl, Kp.end4 (by assumption)⟩
  cases h2 : mayB x2 y2
  · rw [show rmayB x1 y1 x2 y2 = false by unfold rmayB; rw [h1, h2]; rfl]
    go_enter Tryz.func11, Tryz.ntmps11
    go_wp2_with (go_at_call 16; refine (refMay_any _ _ _).mono ?_; rintro e w1 ⟨rfl, hb1⟩; have K1 := Kp.keep4 hb1 (by assumption); clear hb1)
    go_ret
    exact ⟨rfl, Kp.end4 (by assumption)⟩
  rw [show rmayB x1 y1 x2 y2 = ordB x1 y1 x2 y2 by unfold rmayB; rw [h1, h2]; rfl]
  go_enter Tryz.func11, Tryz.ntmps11
  go_wp2_with (go_at_call 16; refine (refMay_any _ _ _).mono ?_; rintro e w1 ⟨rfl, hb1⟩; have K1 := Kp.keep4 hb1 (by assumption); clear hb1)
  all_goals (go_ret; exact ⟨by simp [ordB, *] <;> omega, Kp.end4 (by assumption)⟩)

end Go.Proofs.YtobkgamcjfjghaaGreat.Rc
/-
  Contracts of the functions of layer 2 (rect) that call others, and of their document's answers: May, Holds for any rectangles; Grow, Meet's and Join's document's answers for rectangles that may be. Memory that was there is left as it was.
-/
namespace Go.Proofs.YtobkgamcjfjghaaGreat.Rc
open Go.RowKit Go.Proofs.YtobkgamcjfjghaaGreat.Pt

set_option maxHeartbeats 1000000 in
theorem holds_any (ax1 ay1 ax2 ay2 bx1 by1 bx2 by2 : Int) (w : World) : Calls Tryz.prog 51 #[.agg #[.int .i64 ax1, .int .i64 ay1, .int .i64 ax2, .int .i64 ay2], .agg #[.int .i64 bx1, .int .i64 by1, .int .i64 bx2, .int .i64 by2]] w fun e w' => e = .returned (.bool (holdsB ax1 ay1 ax2 ay2 bx1 by1 bx2 by2)) ∧ Below w.heap.size w w' := by
  have L := Kp.adq4 (Kp.adq0 ⟨Nat.le_refl _, Below.refl w.heap.size w⟩ w.heap.size rfl (.int .i64 ax1) (.int .i64 ay1) (.int .i64 ax2) (.int .i64 ay2) 26) (w.heap.size + 1) (by simp) (.int .i64 bx1) (.int .i64 by1) (.int .i64 bx2) (.int .i64 by2) 26
  cases h1 : inB ax1 ay1 ax2 ay2 bx1 by1
  · rw [show holdsB ax1 ay1 ax2 ay2 bx1 by1 bx2 by2 = false by unfold holdsB; rw [h1]; rfl]
    go_enter Tryz.func51, Tryz.ntmps51
    go_wp2_with fail
    refine wp_region_held_drew (S := (fun W => W.cell? ⟨w.heap.size, 0, none⟩ = some (.int .i64 ax1) ∧ W.cell? ⟨w.heap.size, 1, none⟩ = some (.int .i64 ay1) ∧ W.cell? ⟨w.heap.size, 2, none⟩ = some (.int .i64 ax2) ∧ W.cell? ⟨w.heap.size, 3, none⟩ = some (.int .i64 ay2) ∧ W.cell? ⟨w.heap.size + 1, 0, none⟩ = some (.int .i64 bx1) ∧ W.cell? ⟨w.heap.size + 1, 1, none⟩ = some (.int .i64 by1) ∧ W.cell? ⟨w.heap.size + 1, 2, none⟩ = some (.int .i64 bx2) ∧ W.cell? ⟨w.heap.size + 1, 3, none⟩ = some (.int .i64 by2) ∧ w.heap.size ≤ W.heap.size ∧ Below w.heap.size w W)) (by kernel_rfl) (Kp.drew8 (by assumption)) (fun hHeld => ?_)
    refine wpAnyH_take (i := 0) (v := ?v0) rfl (by kernel_rfl) (by kernel_rfl) (by kernel_rfl) (fun _ _ _ h => h) (Or.inl ⟨by rfl, ?y0⟩) hHeld ?r0
    case y0 => (intro W hSw; simp only [List.getElem_toArray, List.getElem_cons_zero]; go_simp; try (with_reducible rfl))
    simp only [List.getElem_toArray, List.getElem_cons_zero, Act.put, List.setIfInBounds_toArray, List.set_cons_zero, List.set_cons_succ]
    refine wpAnyH_take (i := 1) (v := ?v1) rfl (by kernel_rfl) (by kernel_rfl) (by kernel_rfl) (fun _ _ _ h => h) (Or.inl ⟨by rfl, ?y1⟩) hHeld ?r1
    case y1 => (intro W hSw; simp only [List.getElem_toArray, List.getElem_cons_succ, List.getElem_cons_zero]; go_simp; try (with_reducible rfl))
    simp only [List.getElem_toArray, List.getElem_cons_succ, List.getElem_cons_zero, Act.put, List.setIfInBounds_toArray, List.set_cons_zero, List.set_cons_succ]
    refine wpAnyH_ready (rs := [2]) (by kernel_rfl) (by simp) (AllReadyH.cons rfl (fun K hK => ?_) AllReadyH.nil)
    simp only [List.getElem_toArray, List.getElem_cons_succ, List.getElem_cons_zero]
    go_simp
    (first | (go_at_call 40; refine (low_any _ _ _ _ _).mono ?_; rintro e w1 ⟨rfl, hb1⟩) | (go_at_call 41; refine (high_any _ _ _ _ _).mono ?_; rintro e w1 ⟨rfl, hb1⟩) | (go_at_call 32; refine (in_any _ _ _ _ _ _ _).mono ?_; rintro e w1 ⟨rfl, hb1⟩))
    try go_wp2_with fail
    refine hK.out _ _ (Kp.keep8 (by assumption) (by assumption)) (fun hHeld1 => ?_)
    clear hK K hHeld
    have hHeld := hHeld1; clear hHeld1
    try simp only [List.getElem_toArray, List.getElem_cons_succ, List.getElem_cons_zero, Act.put, List.setIfInBounds_toArray, List.set_cons_zero, List.set_cons_succ]
    refine wpAnyH_ready (rs := [3]) (by kernel_rfl) (by simp) (AllReadyH.cons rfl (fun K hK => ?_) AllReadyH.nil)
    simp only [List.getElem_toArray, List.getElem_cons_succ, List.getElem_cons_zero]
    go_simp
    (first | (go_at_call 40; refine (low_any _ _ _ _ _).mono ?_; rintro e w1 ⟨rfl, hb1⟩) | (go_at_call 41; refine (high_any _ _ _ _ _).mono ?_; rintro e w1 ⟨rfl, hb1⟩) | (go_at_call 32; refine (in_any _ _ _ _ _ _ _).mono ?_; rintro e w1 ⟨rfl, hb1⟩))
    try go_wp2_with fail
    refine hK.out _ _ (Kp.keep8 (by assumption) (by assumption)) (fun hHeld1 => ?_)
    clear hK K hHeld
    have hHeld := hHeld1; clear hHeld1
    try simp only [List.getElem_toArray, List.getElem_cons_succ, List.getElem_cons_zero, Act.put, List.setIfInBounds_toArray, List.set_cons_zero, List.set_cons_succ]
    refine wpAnyH_take (i := 4) (v := ?v4) rfl (by kernel_rfl) (by kernel_rfl) (by kernel_rfl) (fun _ _ _ h => h) (Or.inl ⟨by rfl, ?y4⟩) hHeld ?r4
    case y4 => (intro W hSw; simp only [List.getElem_toArray, List.getElem_cons_succ, List.getElem_cons_zero]; go_simp; try (with_reducible rfl))
    simp only [List.getElem_toArray, List.getElem_cons_succ, List.getElem_cons_zero, Act.put, List.setIfInBounds_toArray, List.set_cons_zero, List.set_cons_succ]
    refine wpAnyH_take (i := 5) (v := undef) rfl (by kernel_rfl) (by kernel_rfl) (by kernel_rfl) (fun _ _ _ h => h) (Or.inr ⟨by rfl, rfl⟩) hHeld ?_
    simp only [List.getElem_toArray, List.getElem_cons_succ, List.getElem_cons_zero, Act.put, List.setIfInBounds_toArray, List.set_cons_zero, List.set_cons_succ]
    refine wpAnyH_take (i := 6) (v := undef) rfl (by kernel_rfl) (by kernel_rfl) (by kernel_rfl) (fun _ _ _ h => h) (Or.inr ⟨by rfl, rfl⟩) hHeld ?_
    simp only [List.getElem_toArray, List.getElem_cons_succ, List.getElem_cons_zero, Act.put, List.setIfInBounds_toArray, List.set_cons_zero, List.set_cons_succ]
    refine wpAnyH_take (i := 7) (v := undef) rfl (by kernel_rfl) (by kernel_rfl) (by kernel_rfl) (fun _ _ _ h => h) (Or.inr ⟨by rfl, rfl⟩) hHeld ?_
    simp only [List.getElem_toArray, List.getElem_cons_succ, List.getElem_cons_zero, Act.put, List.setIfInBounds_toArray, List.set_cons_zero, List.set_cons_succ]
    refine wpAnyH_take (i := 8) (v := undef) rfl (by kernel_rfl) (by kernel_rfl) (by kernel_rfl) (fun _ _ _ h => h) (Or.inr ⟨by rfl, rfl⟩) hHeld ?_
    simp only [List.getElem_toArray, List.getElem_cons_succ, List.getElem_cons_zero, Act.put, List.setIfInBounds_toArray, List.set_cons_zero, List.set_cons_succ]
    refine wpAnyH_take (i := 9) (v := ?v9) rfl (by kernel_rfl) (by kernel_rfl) (by kernel_rfl) (fun _ _ _ h => h) (Or.inl ⟨by rfl, ?y9⟩) hHeld ?r9
    case y9 => (intro W hSw; simp only [List.getElem_toArray, List.getElem_cons_succ, List.getElem_cons_zero]; go_simp; try (with_reducible rfl))
    simp only [List.getElem_toArray, List.getElem_cons_succ, List.getElem_cons_zero, Act.put, List.setIfInBounds_toArray, List.set_cons_zero, List.set_cons_succ]
    refine wpAnyH_take (i := 10) (v := ?v10) rfl (by kernel_rfl) (by kernel_rfl) (by kernel_rfl) (fun _ _ _ h => h) (Or.inl ⟨by rfl, ?y10⟩) hHeld ?r10
    case y10 => (intro W hSw; simp only [List.getElem_toArray, List.getElem_cons_succ, List.getElem_cons_zero]; go_simp; try (with_reducible rfl))
    simp only [List.getElem_toArray, List.getElem_cons_succ, List.getElem_cons_zero, Act.put, List.setIfInBounds_toArray, List.set_cons_zero, List.set_cons_succ]
    refine wpAnyH_done (by kernel_rfl) ?_ _
    go_wp2_with fail
    go_ret
    exact ⟨rfl, Kp.end8 (by assumption)⟩
  rw [show holdsB ax1 ay1 ax2 ay2 bx1 by1 bx2 by2 = inB ax1 ay1 ax2 ay2 bx2 by2 by unfold holdsB; rw [h1]; rfl]
  go_enter Tryz.func51, Tryz.ntmps51
  go_wp2_with fail
  go_region_held3 (fun W => W.cell? ⟨w.heap.size, 0, none⟩ = some (.int .i64 ax1) ∧ W.cell? ⟨w.heap.size, 1, none⟩ = some (.int .i64 ay1) ∧ W.cell? ⟨w.heap.size, 2, none⟩ = some (.int .i64 ax2) ∧ W.cell? ⟨w.heap.size, 3, none⟩ = some (.int .i64 ay2) ∧ W.cell? ⟨w.heap.size + 1, 0, none⟩ = some (.int .i64 bx1) ∧ W.cell? ⟨w.heap.size + 1, 1, none⟩ = some (.int .i64 by1) ∧ W.cell? ⟨w.heap.size + 1, 2, none⟩ = some (.int .i64 bx2) ∧ W.cell? ⟨w.heap.size + 1, 3, none⟩ = some (.int .i64 by2) ∧ w.heap.size ≤ W.heap.size ∧ Below w.heap.size w W)
    (first | exact Kp.drew8 (by assumption) | exact Kp.keep8 (by assumption) (by assumption))
    (first | (go_at_call 40; refine (low_any _ _ _ _ _).mono ?_; rintro e w1 ⟨rfl, hb1⟩) | (go_at_call 41; refine (high_any _ _ _ _ _).mono ?_; rintro e w1 ⟨rfl, hb1⟩) | (go_at_call 32; refine (in_any _ _ _ _ _ _ _).mono ?_; rintro e w1 ⟨rfl, hb1⟩))
  go_wp2_with fail
  go_ret
  exact ⟨rfl, Kp.end8 (by assumption)⟩

theorem grow_any (ax1 ay1 ax2 ay2 bx1 by1 bx2 by2 : Int) (w : World) (ha : rmayB ax1 ay1 ax2 ay2 = true) (hb : rmayB bx1 by1 bx2 by2 = true) : Calls Tryz.prog 120 #[.agg #[.int .i64 ax1, .int .i64 ay1, .int .i64 ax2, .int .i64 ay2], .agg #[.int .i64 bx1, .int .i64 by1, .int .i64 bx2, .int .i64 by2]] w fun e w' => e = .returned (.int .i64 (areaI (mn ax1 bx1) (mn ay1 by1) (mx ax2 bx2) (mx ay2 by2) - areaI ax1 ay1 ax2 ay2)) ∧ Below w.heap.size w w' := by
  have L := Kp.adq4 (Kp.adq0 ⟨Nat.le_refl _, Below.refl w.heap.size w⟩ w.heap.size rfl (.int .i64 ax1) (.int .i64 ay1) (.int .i64 ax2) (.int .i64 ay2) 26) (w.heap.size + 1) (by simp) (.int .i64 bx1) (.int .i64 by1) (.int .i64 bx2) (.int .i64 by2) 26
  have hj := join_may ha hb
  have b1 := areaI_bd ha
  have b2 := areaI_bd hj
  have t := IntWalk.i64_in (areaI (mn ax1 bx1) (mn ay1 by1) (mx ax2 bx2) (mx ay2 by2) - areaI ax1 ay1 ax2 ay2) (by omega)
  clear b1 b2 hb
  go_enter Tryz.func120, Tryz.ntmps120
  go_wp2_with fail
  go_region_held3 (fun W => W.cell? ⟨w.heap.size, 0, none⟩ = some (.int .i64 ax1) ∧ W.cell? ⟨w.heap.size, 1, none⟩ = some (.int .i64 ay1) ∧ W.cell? ⟨w.heap.size, 2, none⟩ = some (.int .i64 ax2) ∧ W.cell? ⟨w.heap.size, 3, none⟩ = some (.int .i64 ay2) ∧ W.cell? ⟨w.heap.size + 1, 0, none⟩ = some (.int .i64 bx1) ∧ W.cell? ⟨w.heap.size + 1, 1, none⟩ = some (.int .i64 by1) ∧ W.cell? ⟨w.heap.size + 1, 2, none⟩ = some (.int .i64 bx2) ∧ W.cell? ⟨w.heap.size + 1, 3, none⟩ = some (.int .i64 by2) ∧ w.heap.size ≤ W.heap.size ∧ Below w.heap.size w W)
    (first | exact Kp.drew8 (by assumption) | exact Kp.keep8 (by assumption) (by assumption))
    (first | (go_at_call 49; refine (join_any _ _ _ _ _ _ _ _ _).mono ?_; rintro e w1 ⟨rfl, hb1⟩) | (go_at_call 112; refine (area_any _ _ _ _ _ (by assumption)).mono ?_; rintro e w1 ⟨rfl, hb1⟩))
  go_wp2_with fail
  go_ret
  exact ⟨rfl, Kp.end8 (by assumption)⟩

end Go.Proofs.YtobkgamcjfjghaaGreat.Rc
/-
  The contract of the document's answer Join of layer 2 (rect), for coordinates that may be. Memory that was there is left as it was.
-/
namespace Go.Proofs.YtobkgamcjfjghaaGreat.Rc
open Go.RowKit Go.Proofs.YtobkgamcjfjghaaGreat.Pt

set_option maxHeartbeats 1000000 in
theorem refJoin_any (ax1 ay1 ax2 ay2 bx1 by1 bx2 by2 : Int) (w : World) (h1 : inR ax2 = true) (h2 : inR ay2 = true) (h3 : inR bx2 = true) (h4 : inR by2 = true) : Calls Tryz.prog 44 #[.agg #[.int .i64 ax1, .int .i64 ay1, .int .i64 ax2, .int .i64 ay2], .agg #[.int .i64 bx1, .int .i64 by1, .int .i64 bx2, .int .i64 by2]] w fun e w' => e = .returned (.agg #[.int .i64 (mn ax1 bx1), .int .i64 (mn ay1 by1), .int .i64 (mx ax2 bx2), .int .i64 (mx ay2 by2)]) ∧ Below w.heap.size w w' := by
  go_enter Tryz.func44, Tryz.ntmps44
  go_wp2_with fail
  go_region_held3 (fun W => W.cell? ⟨w.heap.size, 0, none⟩ = some (.int .i64 ax1) ∧ W.cell? ⟨w.heap.size, 1, none⟩ = some (.int .i64 ay1) ∧ W.cell? ⟨w.heap.size, 2, none⟩ = some (.int .i64 ax2) ∧ W.cell? ⟨w.heap.size, 3, none⟩ = some (.int .i64 ay2) ∧ W.cell? ⟨w.heap.size + 1, 0, none⟩ = some (.int .i64 bx1) ∧ W.cell? ⟨w.heap.size + 1, 1, none⟩ = some (.int .i64 by1) ∧ W.cell? ⟨w.heap.size + 1, 2, none⟩ = some (.int .i64 bx2) ∧ W.cell? ⟨w.heap.size + 1, 3, none⟩ = some (.int .i64 by2))
    (go_keep)
    (first | (go_at_call 46; refine (less_any _ _ _).mono ?_; rintro e w1 ⟨rfl, rfl⟩) | (go_at_call 45; refine (more_any _ _ _ (by assumption) (by assumption)).mono ?_; rintro e w1 ⟨rfl, rfl⟩))
  go_wp2_with fail
  refine bodyPost_ret (v := .agg #[.int .i64 (mn ax1 bx1), .int .i64 (mn ay1 by1), .int .i64 (mx ax2 bx2), .int .i64 (mx ay2 by2)]) (by simp [results, Tryz.results44, go_sem]) rfl ⟨rfl, ?_⟩
  exact ((((Below.refl _ _).alloc (Nat.le_refl _) _).alloc (by simp) _).alloc (by simp; omega) _).drew

end Go.Proofs.YtobkgamcjfjghaaGreat.Rc
/-
  Contracts of Meet of layer 2 (rect), for any rectangles, and of the document's answers Join and Meet, for coordinates that may be. Memory that was there is left as it was.
-/
namespace Go.Proofs.YtobkgamcjfjghaaGreat.Rc
open Go.RowKit Go.Proofs.YtobkgamcjfjghaaGreat.Pt

set_option maxHeartbeats 1000000 in
theorem meet_no (ax1 ay1 ax2 ay2 bx1 by1 bx2 by2 : Int) (w : World) (h : ordB (mx ax1 bx1) (mx ay1 by1) (mn ax2 bx2) (mn ay2 by2) = false) : Calls Tryz.prog 34 #[.agg #[.int .i64 ax1, .int .i64 ay1, .int .i64 ax2, .int .i64 ay2], .agg #[.int .i64 bx1, .int .i64 by1, .int .i64 bx2, .int .i64 by2]] w fun e w' => e = .returned (.tuple #[.agg #[.int .i64 0, .int .i64 0, .int .i64 0, .int .i64 0], .bool false]) ∧ Below w.heap.size w w' := by
  have hn := run_mn Tryz.prog
  have hx := run_mx Tryz.prog
  go_enter Tryz.func34, Tryz.ntmps34
  go_wp2_with fail
  refine (inOrder_any _ _ _ _ _).mono ?_
  rintro e w1 ⟨rfl, hb1⟩
  have hz := hb1.size
  simp at hz
  obtain ⟨hc, hf⟩ := bcell hb1
  go_wp2_with fail
  refine bodyPost_ret (v := .tuple #[.agg #[.int .i64 0, .int .i64 0, .int .i64 0, .int .i64 0], .bool false]) (by simp [results, Tryz.results34, go_sem, *]) rfl ⟨rfl, ?_⟩
  have B4 := (((((Below.refl w.heap.size w).alloc (Nat.le_refl _) (.cells #[.int .i64 ax1, .int .i64 ay1, .int .i64 ax2, .int .i64 ay2] 26)).alloc (by simp) (.cells #[.int .i64 bx1, .int .i64 by1, .int .i64 bx2, .int .i64 by2] 26)).alloc (by simp; omega) _).alloc (by simp; omega) _).trans (hb1.mono (by simp; omega))
  exact (((B4.setCell (by simp; omega) _).setCell (by simp; omega) _).setCell (by simp; omega) _).setCell (by simp; omega) _

set_option maxHeartbeats 1000000 in
theorem meet_yes (ax1 ay1 ax2 ay2 bx1 by1 bx2 by2 : Int) (w : World) (h : ordB (mx ax1 bx1) (mx ay1 by1) (mn ax2 bx2) (mn ay2 by2) = true) : Calls Tryz.prog 34 #[.agg #[.int .i64 ax1, .int .i64 ay1, .int .i64 ax2, .int .i64 ay2], .agg #[.int .i64 bx1, .int .i64 by1, .int .i64 bx2, .int .i64 by2]] w fun e w' => e = .returned (.tuple #[.agg #[.int .i64 (mx ax1 bx1), .int .i64 (mx ay1 by1), .int .i64 (mn ax2 bx2), .int .i64 (mn ay2 by2)], .bool true]) ∧ Below w.heap.size w w' := by
  have hn := run_mn Tryz.prog
  have hx := run_mx Tryz.prog
  go_enter Tryz.func34, Tryz.ntmps34
  go_wp2_with fail
  refine (inOrder_any _ _ _ _ _).mono ?_
  rintro e w1 ⟨rfl, hb1⟩
  have hz := hb1.size
  simp at hz
  obtain ⟨hc, hf⟩ := bcell hb1
  go_wp2_with fail
  refine bodyPost_ret (v := .tuple #[.agg #[.int .i64 (mx ax1 bx1), .int .i64 (mx ay1 by1), .int .i64 (mn ax2 bx2), .int .i64 (mn ay2 by2)], .bool true]) (by simp [results, Tryz.results34, go_sem, *]) rfl ⟨rfl, ?_⟩
  have B4 := (((((Below.refl w.heap.size w).alloc (Nat.le_refl _) (.cells #[.int .i64 ax1, .int .i64 ay1, .int .i64 ax2, .int .i64 ay2] 26)).alloc (by simp) (.cells #[.int .i64 bx1, .int .i64 by1, .int .i64 bx2, .int .i64 by2] 26)).alloc (by simp; omega) _).alloc (by simp; omega) _).trans (hb1.mono (by simp; omega))
  exact (((B4.setCell (by simp; omega) _).setCell (by simp; omega) _).setCell (by simp; omega) _).setCell (by simp; omega) _

set_option maxHeartbeats 2000000 in
theorem refMeet_no (ax1 ay1 ax2 ay2 bx1 by1 bx2 by2 : Int) (w : World) (h1 : inR ax1 = true) (h2 : inR ay1 = true) (h3 : inR bx1 = true) (h4 : inR by1 = true) (h : ordB (mx ax1 bx1) (mx ay1 by1) (mn ax2 bx2) (mn ay2 by2) = false) : Calls Tryz.prog 29 #[.agg #[.int .i64 ax1, .int .i64 ay1, .int .i64 ax2, .int .i64 ay2], .agg #[.int .i64 bx1, .int .i64 by1, .int .i64 bx2, .int .i64 by2]] w fun e w' => e = .returned (.tuple #[.agg #[.int .i64 0, .int .i64 0, .int .i64 0, .int .i64 0], .bool false]) ∧ Below w.heap.size w w' := by
  have hh : mn ax2 bx2 < mx ax1 bx1 ∨ (mx ax1 bx1 ≤ mn ax2 bx2 ∧ mn ay2 by2 < mx ay1 by1) := by
    rw [← Bool.not_eq_true, ordB_iff] at h; omega
  clear h
  rcases hh with h | ⟨_, _⟩
  · go_enter Tryz.func29, Tryz.ntmps29
    go_wp2_with fail
    go_region_held3 (fun W => W.cell? ⟨w.heap.size, 0, none⟩ = some (.int .i64 ax1) ∧ W.cell? ⟨w.heap.size, 1, none⟩ = some (.int .i64 ay1) ∧ W.cell? ⟨w.heap.size, 2, none⟩ = some (.int .i64 ax2) ∧ W.cell? ⟨w.heap.size, 3, none⟩ = some (.int .i64 ay2) ∧ W.cell? ⟨w.heap.size + 1, 0, none⟩ = some (.int .i64 bx1) ∧ W.cell? ⟨w.heap.size + 1, 1, none⟩ = some (.int .i64 by1) ∧ W.cell? ⟨w.heap.size + 1, 2, none⟩ = some (.int .i64 bx2) ∧ W.cell? ⟨w.heap.size + 1, 3, none⟩ = some (.int .i64 by2))
      (go_keep)
      (first | (go_at_call 46; refine (less_any _ _ _).mono ?_; rintro e w1 ⟨rfl, rfl⟩) | (go_at_call 45; refine (more_any _ _ _ (by assumption) (by assumption)).mono ?_; rintro e w1 ⟨rfl, rfl⟩))
    all_goals go_wp2_with fail
    all_goals refine bodyPost_ret (v := .tuple #[.agg #[.int .i64 0, .int .i64 0, .int .i64 0, .int .i64 0], .bool false]) (by simp [results, Tryz.results29, go_sem]) rfl ⟨rfl, ?_⟩
    all_goals exact (((((Below.refl _ _).alloc (Nat.le_refl _) _).alloc (by simp) _).alloc (by simp; omega) _).alloc (by simp; omega) _).drew
  · go_enter Tryz.func29, Tryz.ntmps29
    go_wp2_with fail
    go_region_held3 (fun W => W.cell? ⟨w.heap.size, 0, none⟩ = some (.int .i64 ax1) ∧ W.cell? ⟨w.heap.size, 1, none⟩ = some (.int .i64 ay1) ∧ W.cell? ⟨w.heap.size, 2, none⟩ = some (.int .i64 ax2) ∧ W.cell? ⟨w.heap.size, 3, none⟩ = some (.int .i64 ay2) ∧ W.cell? ⟨w.heap.size + 1, 0, none⟩ = some (.int .i64 bx1) ∧ W.cell? ⟨w.heap.size + 1, 1, none⟩ = some (.int .i64 by1) ∧ W.cell? ⟨w.heap.size + 1, 2, none⟩ = some (.int .i64 bx2) ∧ W.cell? ⟨w.heap.size + 1, 3, none⟩ = some (.int .i64 by2))
      (go_keep)
      (first | (go_at_call 46; refine (less_any _ _ _).mono ?_; rintro e w1 ⟨rfl, rfl⟩) | (go_at_call 45; refine (more_any _ _ _ (by assumption) (by assumption)).mono ?_; rintro e w1 ⟨rfl, rfl⟩))
    all_goals go_wp2_with fail
    all_goals refine bodyPost_ret (v := .tuple #[.agg #[.int .i64 0, .int .i64 0, .int .i64 0, .int .i64 0], .bool false]) (by simp [results, Tryz.results29, go_sem]) rfl ⟨rfl, ?_⟩
    all_goals exact (((((Below.refl _ _).alloc (Nat.le_refl _) _).alloc (by simp) _).alloc (by simp; omega) _).alloc (by simp; omega) _).drew

set_option maxHeartbeats 2000000 in
theorem refMeet_yes (ax1 ay1 ax2 ay2 bx1 by1 bx2 by2 : Int) (w : World) (h1 : inR ax1 = true) (h2 : inR ay1 = true) (h3 : inR bx1 = true) (h4 : inR by1 = true) (h : ordB (mx ax1 bx1) (mx ay1 by1) (mn ax2 bx2) (mn ay2 by2) = true) : Calls Tryz.prog 29 #[.agg #[.int .i64 ax1, .int .i64 ay1, .int .i64 ax2, .int .i64 ay2], .agg #[.int .i64 bx1, .int .i64 by1, .int .i64 bx2, .int .i64 by2]] w fun e w' => e = .returned (.tuple #[.agg #[.int .i64 (mx ax1 bx1), .int .i64 (mx ay1 by1), .int .i64 (mn ax2 bx2), .int .i64 (mn ay2 by2)], .bool true]) ∧ Below w.heap.size w w' := by
  rw [ordB_iff] at h
  obtain ⟨_, _⟩ := h
  go_enter Tryz.func29, Tryz.ntmps29
  go_wp2_with fail
  go_region_held3 (fun W => W.cell? ⟨w.heap.size, 0, none⟩ = some (.int .i64 ax1) ∧ W.cell? ⟨w.heap.size, 1, none⟩ = some (.int .i64 ay1) ∧ W.cell? ⟨w.heap.size, 2, none⟩ = some (.int .i64 ax2) ∧ W.cell? ⟨w.heap.size, 3, none⟩ = some (.int .i64 ay2) ∧ W.cell? ⟨w.heap.size + 1, 0, none⟩ = some (.int .i64 bx1) ∧ W.cell? ⟨w.heap.size + 1, 1, none⟩ = some (.int .i64 by1) ∧ W.cell? ⟨w.heap.size + 1, 2, none⟩ = some (.int .i64 bx2) ∧ W.cell? ⟨w.heap.size + 1, 3, none⟩ = some (.int .i64 by2))
    (go_keep)
    (first | (go_at_call 46; refine (less_any _ _ _).mono ?_; rintro e w1 ⟨rfl, rfl⟩) | (go_at_call 45; refine (more_any _ _ _ (by assumption) (by assumption)).mono ?_; rintro e w1 ⟨rfl, rfl⟩))
  all_goals go_wp2_with fail
  all_goals refine bodyPost_ret (v := .tuple #[.agg #[.int .i64 (mx ax1 bx1), .int .i64 (mx ay1 by1), .int .i64 (mn ax2 bx2), .int .i64 (mn ay2 by2)], .bool true]) (by simp [results, Tryz.results29, go_sem]) rfl ⟨rfl, ?_⟩
  all_goals exact (((((Below.refl _ _).alloc (Nat.le_refl _) _).alloc (by simp) _).alloc (by simp; omega) _).alloc (by simp; omega) _).drew

end Go.Proofs.YtobkgamcjfjghaaGreat.Rc
/-
  A slice of points in memory, and a rectangle of the call's own in memory: what is known of them stays known behind whatever only makes memory. No program here.
-/
namespace Go.Proofs.YtobkgamcjfjghaaGreat.Pts
open Go.RowKit

/-- A slice that holds these points, in blocks below B. -/
def PtsAt (w : World) (B : Nat) (A : Option Addr) (l : List (Int × Int)) : Prop :=
  l ≠ [] → ∃ b off, A = some ⟨b, off, none⟩ ∧ b < B ∧ ∀ (k : Nat) (h : k < l.length), w.cell? ⟨b, off + k * 2, none⟩ = some (.int .i64 l[k].1) ∧ w.cell? ⟨b, off + k * 2 + 1, none⟩ = some (.int .i64 l[k].2)
/-- A rectangle in block g, that may be written. -/
def Rc4 (W : World) (g : Nat) (x1 y1 x2 y2 : Int) : Prop :=
  W.cell? ⟨g, 0, none⟩ = some (.int .i64 x1) ∧ W.cell? ⟨g, 1, none⟩ = some (.int .i64 y1) ∧ W.cell? ⟨g, 2, none⟩ = some (.int .i64 x2) ∧ W.cell? ⟨g, 3, none⟩ = some (.int .i64 y2) ∧
  W.frozen? ⟨g, 0, none⟩ = false ∧ W.frozen? ⟨g, 1, none⟩ = false ∧ W.frozen? ⟨g, 2, none⟩ = false ∧ W.frozen? ⟨g, 3, none⟩ = false
section
variable {W w1 : World} {g : Nat} {x1 y1 x2 y2 : Int}
theorem Rc4.lt (h : Rc4 W g x1 y1 x2 y2) : g < W.heap.size := World.block_lt_of_cell? _ ⟨g, 0, none⟩ h.1
theorem Rc4.below {B : Nat} (h : Rc4 W g x1 y1 x2 y2) (hb : Below B W w1) (hg : g < B) : Rc4 w1 g x1 y1 x2 y2 := by
  obtain ⟨a, b, c, d, e, f, i, j⟩ := h
  have hc := fun o => hb.cell (p := ⟨g, o, none⟩) hg
  have hf := fun o => hb.frozen (p := ⟨g, o, none⟩) hg
  exact ⟨(hc 0).trans a, (hc 1).trans b, (hc 2).trans c, (hc 3).trans d, (hf 0).trans e, (hf 1).trans f, (hf 2).trans i, (hf 3).trans j⟩
theorem Rc4.later (h : Rc4 W g x1 y1 x2 y2) (hb : Below W.heap.size W w1) : Rc4 w1 g x1 y1 x2 y2 := h.below hb h.lt
theorem Rc4.alloc (h : Rc4 W g x1 y1 x2 y2) (o : Obj) : Rc4 (W.alloc o) g x1 y1 x2 y2 := h.later ((Below.refl _ _).alloc (Nat.le_refl _) _)
theorem Rc4.drew (h : Rc4 W g x1 y1 x2 y2) : Rc4 W.drew g x1 y1 x2 y2 := h
theorem Rc4.new (W : World) (x1 y1 x2 y2 : Int) (t : TypeId) : Rc4 (W.alloc (.cells #[.int .i64 x1, .int .i64 y1, .int .i64 x2, .int .i64 y2] t)) W.heap.size x1 y1 x2 y2 := by
  refine ⟨?_, ?_, ?_, ?_, ?_, ?_, ?_, ?_⟩ <;> simp [go_sem]
theorem cell_far (W : World) {p q : Addr} (v : Value) (h : p.block ≠ q.block) : (W.setCell p v).cell? q = W.cell? q := World.cell?_setCell_other W p q v (fun e => h (by rw [e]))
theorem frozen_set (W : World) (p q : Addr) (v : Value) : (W.setCell p v).frozen? q = W.frozen? q := by simp [go_sem]
theorem Rc4.far (h : Rc4 W g x1 y1 x2 y2) {p : Addr} (v : Value) (hp : p.block ≠ g) : Rc4 (W.setCell p v) g x1 y1 x2 y2 := by
  obtain ⟨a, b, c, d, e, f, i, j⟩ := h
  exact ⟨(cell_far W v hp).trans a, (cell_far W v hp).trans b, (cell_far W v hp).trans c, (cell_far W v hp).trans d, (frozen_set ..).trans e, (frozen_set ..).trans f, (frozen_set ..).trans i, (frozen_set ..).trans j⟩
/-- All four written. -/
theorem Rc4.set (h : Rc4 W g x1 y1 x2 y2) (a b c d : Int) :
    Rc4 ((((W.setCell ⟨g, 0, none⟩ (.int .i64 a)).setCell ⟨g, 1, none⟩ (.int .i64 b)).setCell ⟨g, 2, none⟩ (.int .i64 c)).setCell ⟨g, 3, none⟩ (.int .i64 d)) g a b c d := by
  obtain ⟨h0, h1, h2, h3, f0, f1, f2, f3⟩ := h
  refine ⟨?_, ?_, ?_, ?_, ?_, ?_, ?_, ?_⟩ <;> simp [go_sem, *]
end
end Go.Proofs.YtobkgamcjfjghaaGreat.Pts
/-
  The least rectangle of a list of points: plain arithmetic, no program here.
-/
namespace Go.Proofs.YtobkgamcjfjghaaGreat.Rc
open Go.Proofs.YtobkgamcjfjghaaGreat.Pt

/-- Four coordinates. -/
structure R4 where
  x1 : Int
  y1 : Int
  x2 : Int
  y2 : Int
/-- Joined with a point. -/
def stepR (r : R4) (p : Int × Int) : R4 := ⟨mn r.x1 p.1, mn r.y1 p.2, mx r.x2 p.1, mx r.y2 p.2⟩
def singR (p : Int × Int) : R4 := ⟨p.1, p.2, p.1, p.2⟩
/-- The first k points of a list, joined; it starts from the first one. -/
def accR (p : Int × Int) (l : List (Int × Int)) (k : Nat) : R4 := (l.take k).foldl stepR (singR p)
def pmay (p : Int × Int) : Bool := mayB p.1 p.2
def okR (r : R4) : Prop := inR r.x1 = true ∧ inR r.y1 = true ∧ inR r.x2 = true ∧ inR r.y2 = true
/-- The least rectangle, or a zero one. -/
def ofR (l : List (Int × Int)) : R4 := match l with
  | [] => ⟨0, 0, 0, 0⟩
  | p :: t => if (p :: t).all pmay then accR p (p :: t) (p :: t).length else ⟨0, 0, 0, 0⟩
def ofB (l : List (Int × Int)) : Bool := !l.isEmpty && l.all pmay
end Go.Proofs.YtobkgamcjfjghaaGreat.Rc
namespace Go.Proofs.YtobkgamcjfjghaaGreat.Rs
open Go.RowKit Go.Proofs.YtobkgamcjfjghaaGreat.Pt Go.Proofs.YtobkgamcjfjghaaGreat.Rc Go.Proofs.YtobkgamcjfjghaaGreat.Pts
set_option linter.unusedVariables false
set_option linter.unusedSimpArgs false
set_option maxHeartbeats 4000000
set_option maxRecDepth 100000
theorem below2 (w : World) (o1 o2 : Obj) : Below w.heap.size w ((w.alloc o1).alloc o2) := ((Below.refl _ _).alloc (Nat.le_refl _) _).alloc (by simp) _
/-- A rectangle as a value. -/
def rv (r : R4) : Value := .agg #[.int .i64 r.x1, .int .i64 r.y1, .int .i64 r.x2, .int .i64 r.y2]
theorem nanI_any (x : Int) (w : World) : Calls Tryz.prog 117 #[.int .i64 x] w fun e w' => e = .returned (.bool false) ∧ w = w' := by
  go_enter Tryz.func117, Tryz.ntmps117
  go_wp2
  go_ret
  exact ⟨by simp, rfl⟩
theorem nanU_any (x : Int) (w : World) : Calls Tryz.prog 123 #[.int .u64 x] w fun e w' => e = .returned (.bool false) ∧ w = w' := by
  go_enter Tryz.func123, Tryz.ntmps123
  go_wp2
  go_ret
  exact ⟨by simp, rfl⟩
theorem cmpI_any (x y : Int) (w : World) : Calls Tryz.prog 96 #[.int .i64 x, .int .i64 y] w fun e w' => ∃ n : Int, e = .returned (.int .i64 n) ∧ w = w' := by
  go_enter Tryz.func96, Tryz.ntmps96
  go_wp2_with (go_at_call 117; refine (nanI_any _ _).mono ?_; rintro e w' ⟨rfl, rfl⟩)
  all_goals
    go_ret
    exact ⟨_, rfl, rfl⟩
theorem cmpU_any (x y : Int) (w : World) : Calls Tryz.prog 114 #[.int .u64 x, .int .u64 y] w fun e w' => ∃ n : Int, e = .returned (.int .i64 n) ∧ w = w' := by
  go_enter Tryz.func114, Tryz.ntmps114
  go_wp2_with (go_at_call 123; refine (nanU_any _ _).mono ?_; rintro e w' ⟨rfl, rfl⟩)
  all_goals
    go_ret
    exact ⟨_, rfl, rfl⟩
/-- At the head of a round: nothing but the counter. -/
def OrR (n : Nat) (w : World) (v8 : Value) (wr : World) : Prop := ∃ k : Nat, v8 = .int .i64 (k : Int) ∧ k ≤ n ∧ wr = w
theorem or_any (b o n c : Nat) (w : World) (hn : n ≤ 100) (hc : ∀ k, k < n → ∃ x : Int, w.cell? ⟨b, o + k, none⟩ = some (.int .i64 x)) : Calls Tryz.prog 113 #[.slice (some ⟨b, o, none⟩) n c] w fun e w' => ∃ x : Int, e = .returned (.int .i64 x) ∧ w = w' := by
  have HC := Lib.hid hc
  clear hc
  go_enter Tryz.func113, Tryz.ntmps113
  go_wp2_with fail
  go_loopw [8] (fun v8 wr => OrR n w v8 wr) (fun v8 _ => n - (intOf v8).toNat)
  case atStart => exact ⟨0, rfl, Nat.zero_le _, rfl⟩
  case round =>
    obtain ⟨k, rfl, hk, rfl⟩ := hrel
    by_cases hlt : k < n
    · have hlz : (k : Int) < (n : Int) := by omega
      obtain ⟨x, hx⟩ := HC.out k hlt
      by_cases h0 : x = 0
      · subst h0
        go_wp2_with fail
        go_roundw
        case rel => exact ⟨k + 1, by go_num, by omega, rfl⟩
        case measure => simp [intOf]; omega
      · have hb : (x != 0) = true := by simpa using h0
        go_wp2_with fail
        go_ret
        exact ⟨x, rfl, rfl⟩
    · have hlz : ¬ (k : Int) < (n : Int) := by omega
      go_wp2_with fail
      go_ret
      first | exact ⟨_, rfl, rfl⟩ | exact ⟨⟨_, rfl⟩, rfl⟩ | exact ⟨0, rfl⟩
theorem between_any (x y : Int) (w : World) : Calls Tryz.prog 118 #[.int .i64 x, .int .i64 y] w fun e w' => ∃ n : Int, e = .returned (.int .i64 n) ∧ w = w' := by
  have hn := run_mn Tryz.prog
  have hx := run_mx Tryz.prog
  go_enter Tryz.func118, Tryz.ntmps118
  go_wp2
  go_ret
  exact ⟨_, rfl, rfl⟩
/-- It may be. -/
def may4 (r : R4) : Prop := rmayB r.x1 r.y1 r.x2 r.y2 = true
theorem may0 : may4 ⟨0, 0, 0, 0⟩ := (show rmayB 0 0 0 0 = true by decide)
theorem meet_may {ax1 ay1 ax2 ay2 bx1 by1 bx2 by2 : Int} (ha : may4 ⟨ax1, ay1, ax2, ay2⟩) (hb : may4 ⟨bx1, by1, bx2, by2⟩) (h : ordB (mx ax1 bx1) (mx ay1 by1) (mn ax2 bx2) (mn ay2 by2) = true) : may4 ⟨mx ax1 bx1, mx ay1 by1, mn ax2 bx2, mn ay2 by2⟩ := by
  unfold may4 at *
  simp only [rmayB_iff, mayB_iff, inR_iff, ordB_iff] at *
  unfold mx mn at *
  split <;> split <;> split <;> split <;> simp_all <;> omega
theorem join_may {a b : R4} (ha : may4 a) (hb : may4 b) : may4 ⟨mn a.x1 b.x1, mn a.y1 b.y1, mx a.x2 b.x2, mx a.y2 b.y2⟩ := by
  unfold may4 at *
  simp only [rmayB_iff, mayB_iff, inR_iff, ordB_iff] at *
  unfold mx mn at *
  split <;> split <;> split <;> split <;> omega
theorem overlap_any (a b : R4) (w : World) (ha : may4 a) (hb : may4 b) : Calls Tryz.prog 111 #[rv a, rv b] w fun e w' => ∃ n : Int, e = .returned (.int .i64 n) ∧ Below w.heap.size w w' := by
  obtain ⟨ax1, ay1, ax2, ay2⟩ := a
  obtain ⟨bx1, by1, bx2, by2⟩ := b
  unfold rv
  dsimp only
  have HM : ∃ (r : R4) (is : Bool), may4 r ∧ ∀ W, Calls Tryz.prog 34 #[.agg #[.int .i64 ax1, .int .i64 ay1, .int .i64 ax2, .int .i64 ay2], .agg #[.int .i64 bx1, .int .i64 by1, .int .i64 bx2, .int .i64 by2]] W fun e w' => e = .returned (.tuple #[.agg #[.int .i64 r.x1, .int .i64 r.y1, .int .i64 r.x2, .int .i64 r.y2], .bool is]) ∧ Below W.heap.size W w' := by
    cases h : ordB (mx ax1 bx1) (mx ay1 by1) (mn ax2 bx2) (mn ay2 by2) with
    | false => exact ⟨⟨0, 0, 0, 0⟩, false, may0, fun W => meet_no ax1 ay1 ax2 ay2 bx1 by1 bx2 by2 W h⟩
    | true =>
      refine ⟨⟨mx ax1 bx1, mx ay1 by1, mn ax2 bx2, mn ay2 by2⟩, true, ?_, fun W => meet_yes ax1 ay1 ax2 ay2 bx1 by1 bx2 by2 W h⟩
      exact meet_may ha hb h
  obtain ⟨r, is, hr, hm⟩ := HM
  have CM := Lib.hid hm
  have CA := Lib.hid (fun W => area_any r.x1 r.y1 r.x2 r.y2 W hr)
  obtain ⟨rx1, ry1, rx2, ry2⟩ := r
  dsimp only at CM CA
  obtain ⟨n, hn⟩ : ∃ n, n = areaI rx1 ry1 rx2 ry2 := ⟨_, rfl⟩
  rw [← hn] at CA
  clear hm ha hb hr hn
  have HB := Lib.hid ((below2 w (.cells #[.int .i64 ax1, .int .i64 ay1, .int .i64 ax2, .int .i64 ay2] 26) (.cells #[.int .i64 bx1, .int .i64 by1, .int .i64 bx2, .int .i64 by2] 26)))
  go_enter Tryz.func111, Tryz.ntmps111
  go_wp2_with fail
  refine Calls.mono (CM.out _) ?_
  rintro e w1 ⟨rfl, hb1⟩
  have B1 := Lib.hid (HB.out.trans (hb1.mono HB.out.size))
  clear hb1
  go_wp2_with fail
  refine Calls.mono (CA.out _) ?_
  rintro e w2 ⟨rfl, hb2⟩
  have B2 := Lib.hid ((B1.out.alloc B1.out.size _).trans (hb2.mono (B1.out.alloc B1.out.size _).size))
  clear hb2
  go_wp2_with fail
  go_ret
  exact ⟨n, rfl, B2.out⟩
end Go.Proofs.YtobkgamcjfjghaaGreat.Rs
