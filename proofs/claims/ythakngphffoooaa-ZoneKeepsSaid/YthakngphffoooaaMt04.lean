/-
  Contracts of parts, touches and Cross of layer 1 (point), for points that may be. Memory that was there is left as it was.
-/
import Derived.Test.YthakngphffoooaaMt03
import Derived.Test.YthakngphffoooaaMt01
import Derived.Test.YthakngphffoooaaProg
import Derived.WalkKit
import Derived.WalkSpells
import Derived.RowKit3
import Derived.Below
import Derived.Lib.Hide
import Derived.Test.YthakngphffoooaaMt02
import Derived.Handy
import Derived.Deep.RegionHeld3
import Derived.IntWalk
/-
  Plain facts on cells: shifts that may be, how many columns there are, a column's first and last coordinate. No program here.
-/
namespace Go.Proofs.Ythakngphffoooaa.Mo
open Go.Proofs.Ythakngphffoooaa.Pt Go.Proofs.Ythakngphffoooaa.Rc

/-- May a shift be? -/
def shB (s : Int) : Bool := decide (24 ≤ s) && decide (s ≤ 31)
theorem shB_iff {s : Int} : shB s = true ↔ 24 ≤ s ∧ s ≤ 31 := by simp [shB]
theorem shB_nat {s : Int} (h : shB s = true) : ∃ k : Nat, s = k ∧ 24 ≤ k ∧ k ≤ 31 := by
  obtain ⟨h1, h2⟩ := shB_iff.1 h
  exact ⟨s.toNat, by omega, by omega, by omega⟩
theorem shB_of {k : Nat} (h1 : 24 ≤ k) (h2 : k ≤ 31) : shB k = true := shB_iff.2 (by omega)
/-- How many columns there are; none, if the shift may not be. -/
def sdI (s : Int) : Int := if shB s then sideI s.toNat else 0
theorem sdI_no {s : Int} (h : shB s = false) : sdI s = 0 := by unfold sdI; rw [h]; rfl
theorem sdI_yes {k : Nat} (h1 : 24 ≤ k) (h2 : k ≤ 31) : sdI k = sideI k := by unfold sdI; rw [shB_of h1 h2]; rfl
/-- Is a column one of so many? -/
def belB (n m : Int) : Bool := decide (0 ≤ n) && decide (n < m)
theorem belB_iff {n m : Int} : belB n m = true ↔ 0 ≤ n ∧ n < m := by simp [belB]
theorem belB_zero (n : Int) : belB n 0 = false := by
  cases h : belB n 0
  · rfl
  · have := belB_iff.1 h; omega
/-- A column's first and last coordinate. -/
def firI (k : Nat) (n : Int) : Int := n * 2 ^ k - 1073741824
def lasI (k : Nat) (n : Int) : Int := mn (firI k n + 2 ^ k - 1) 1073741824
theorem pow_bd {k : Nat} (h1 : 24 ≤ k) (h2 : k ≤ 31) : (16777216 : Int) ≤ 2 ^ k ∧ (2 : Int) ^ k ≤ 2147483648 := by
  rcases (show k = 24 ∨ k = 25 ∨ k = 26 ∨ k = 27 ∨ k = 28 ∨ k = 29 ∨ k = 30 ∨ k = 31 by omega) with rfl | rfl | rfl | rfl | rfl | rfl | rfl | rfl <;> decide
theorem sideI_bd {k : Nat} (h1 : 24 ≤ k) (h2 : k ≤ 31) : (2 : Int) ≤ sideI k ∧ sideI k ≤ 129 := by
  rcases (show k = 24 ∨ k = 25 ∨ k = 26 ∨ k = 27 ∨ k = 28 ∨ k = 29 ∨ k = 30 ∨ k = 31 by omega) with rfl | rfl | rfl | rfl | rfl | rfl | rfl | rfl <;> decide
theorem col_bd {k : Nat} (h2 : k ≤ 31) {n : Int} (h3 : 0 ≤ n) (h4 : n < sideI k) : 0 ≤ n * 2 ^ k ∧ n * 2 ^ k ≤ 2147483648 := by
  have e : (2 : Int) ^ (31 - k) * 2 ^ k = 2147483648 := by rw [← Int.pow_add, Nat.sub_add_cancel h2]; rfl
  unfold sideI at h4
  have := two_pos k
  exact ⟨Int.mul_nonneg h3 (by omega), by rw [← e]; exact Int.mul_le_mul_of_nonneg_right (by omega) (by omega)⟩
/-- A point lies in its cell's rectangle. -/
theorem in_span {k : Nat} {n : Int} (h : n ≤ 1073741824) : firI k (colI k n) ≤ n ∧ n ≤ lasI k (colI k n) := by
  have h1 := colI_lo k n
  have h2 := colI_hi k n
  rw [Int.add_mul, Int.one_mul] at h2
  unfold lasI firI
  have := mn_cases (colI k n * 2 ^ k - 1073741824 + 2 ^ k - 1) 1073741824
  omega
theorem in_box {k : Nat} {x y : Int} (h : mayB x y = true) : inB (firI k (colI k x)) (firI k (colI k y)) (lasI k (colI k x)) (lasI k (colI k y)) x y = true := by
  obtain ⟨h1, h2⟩ := mayB_iff.1 h
  have g1 := in_span (k := k) (inR_iff.1 h1).2
  have g2 := in_span (k := k) (inR_iff.1 h2).2
  exact inB_iff.2 (by omega)
theorem col_bel {k : Nat} (h2 : k ≤ 31) {x y : Int} (h : mayB x y = true) : belB (colI k x) (sideI k) = true ∧ belB (colI k y) (sideI k) = true := by
  obtain ⟨g1, g2⟩ := mayB_iff.1 h
  have b1 := inR_iff.1 g1
  have b2 := inR_iff.1 g2
  exact ⟨belB_iff.2 ⟨colI_nonneg b1.1, colI_lt h2 b1.2⟩, belB_iff.2 ⟨colI_nonneg b2.1, colI_lt h2 b2.2⟩⟩
end Go.Proofs.Ythakngphffoooaa.Mo
/-
  Covers of rectangles: columns and rows of what lies between others, boxes of blocks of cells, and lists of cells' numbers. Plain; no program here.
-/
namespace Go.Proofs.Ythakngphffoooaa.Cv
open Go.Proofs.Ythakngphffoooaa.Pt Go.Proofs.Ythakngphffoooaa.Rc Go.Proofs.Ythakngphffoooaa.Mo
set_option linter.unusedVariables false

theorem col_mono {k : Nat} {x y : Int} (h : x ≤ y) : colI k x ≤ colI k y := by
  unfold colI
  exact Int.ediv_le_ediv (two_pos k) (by omega)
theorem fir_mono {k : Nat} {c d : Int} (h : c ≤ d) : firI k c ≤ firI k d := by
  unfold firI
  have := Int.mul_le_mul_of_nonneg_right h (Int.le_of_lt (two_pos k))
  omega
theorem las_mono {k : Nat} {c d : Int} (h : c ≤ d) : lasI k c ≤ lasI k d := by
  unfold lasI
  have := fir_mono (k := k) h
  have := mn_cases (firI k c + 2 ^ k - 1) 1073741824
  have := mn_cases (firI k d + 2 ^ k - 1) 1073741824
  omega
theorem mn_le {a b : Int} (h : a ≤ b) : mn a b = a := by have := mn_cases a b; omega
theorem mx_le {a b : Int} (h : a ≤ b) : mx a b = b := by have := mx_cases a b; omega
theorem fir_le {k : Nat} {c n : Int} : firI k c ≤ n ↔ c ≤ colI k n := by
  unfold firI colI
  rw [Int.le_ediv_iff_mul_le (two_pos k)]
  constructor <;> intro h <;> omega
theorem le_las {k : Nat} {c n : Int} (hn : n ≤ 1073741824) : n ≤ lasI k c ↔ colI k n ≤ c := by
  have h1 : colI k n < c + 1 ↔ n + 1073741824 < (c + 1) * 2 ^ k := by unfold colI; exact Int.ediv_lt_iff_lt_mul (two_pos k)
  have h2 : (c + 1) * 2 ^ k = c * 2 ^ k + 2 ^ k := by rw [Int.add_mul, Int.one_mul]
  unfold lasI firI
  have := mn_cases (c * 2 ^ k - 1073741824 + 2 ^ k - 1) 1073741824
  omega
theorem col_fir {k : Nat} (c : Int) : colI k (firI k c) = c := by
  unfold colI firI
  rw [Int.sub_add_cancel]
  exact Int.mul_ediv_cancel _ (Int.ne_of_gt (two_pos k))
theorem las_le (k : Nat) (c : Int) : lasI k c ≤ 1073741824 := by unfold lasI; have := mn_cases (firI k c + 2 ^ k - 1) 1073741824; omega
theorem col_las {k : Nat} {n : Int} (hn : n ≤ 1073741824) : colI k (lasI k (colI k n)) = colI k n := by
  have h1 := (le_las (k := k) (c := colI k n) (n := lasI k (colI k n)) (las_le k _)).1 (Int.le_refl _)
  have h2 : n ≤ lasI k (colI k n) := (le_las hn).2 (Int.le_refl _)
  have := col_mono (k := k) h2
  omega
theorem fir_bd {k : Nat} {n : Int} (hn : -1073741824 ≤ n) : -1073741824 ≤ firI k (colI k n) := by
  unfold firI
  have := Int.mul_nonneg (colI_nonneg (s := k) hn) (Int.le_of_lt (two_pos k))
  omega
theorem fir_self {k : Nat} (n : Int) : firI k (colI k n) ≤ n := fir_le.2 (Int.le_refl _)
theorem las_self {k : Nat} {n : Int} (hn : n ≤ 1073741824) : n ≤ lasI k (colI k n) := (le_las hn).2 (Int.le_refl _)

/-- The box of a cover may be, and holds its rectangle. -/
theorem box_may {k : Nat} {x1 y1 x2 y2 : Int} (h : rmayB x1 y1 x2 y2 = true) : rmayB (firI k (colI k x1)) (firI k (colI k y1)) (lasI k (colI k x2)) (lasI k (colI k y2)) = true := by
  obtain ⟨a, b, c, d, e, f⟩ := rmayB_bd h
  have h1 := fir_self (k := k) x1
  have h2 := fir_self (k := k) y1
  have h3 := las_self (k := k) c
  have h4 := las_self (k := k) f
  exact rmayB_mk ⟨fir_bd a, by omega, las_le _ _, fir_bd d, by omega, las_le _ _⟩
theorem box_holds {k : Nat} {x1 y1 x2 y2 : Int} (h : rmayB x1 y1 x2 y2 = true) : holdsB (firI k (colI k x1)) (firI k (colI k y1)) (lasI k (colI k x2)) (lasI k (colI k y2)) x1 y1 x2 y2 = true := by
  obtain ⟨a, b, c, d, e, f⟩ := rmayB_bd h
  have h1 := fir_self (k := k) x1
  have h2 := fir_self (k := k) y1
  have h3 := las_self (k := k) c
  have h4 := las_self (k := k) f
  exact holdsB_iff.2 ⟨inB_iff.2 ⟨h1, by omega, h2, by omega⟩, inB_iff.2 ⟨by omega, h3, by omega, h4⟩⟩
/-- A point that may be lies in it just where its cell is among the block's. -/
theorem in_boxB {k : Nat} {x1 y1 x2 y2 px py : Int} (hp : mayB px py = true) : inB (firI k (colI k x1)) (firI k (colI k y1)) (lasI k (colI k x2)) (lasI k (colI k y2)) px py = true ↔
    colI k x1 ≤ colI k px ∧ colI k px ≤ colI k x2 ∧ colI k y1 ≤ colI k py ∧ colI k py ≤ colI k y2 := by
  obtain ⟨⟨_, a⟩, ⟨_, b⟩⟩ := (⟨inR_iff.1 (mayB_iff.1 hp).1, inR_iff.1 (mayB_iff.1 hp).2⟩ : (_ ∧ _) ∧ (_ ∧ _))
  rw [inB_iff, fir_le, fir_le, le_las a, le_las b]
theorem in_both {k : Nat} {x1 y1 x2 y2 px py : Int} (h : rmayB x1 y1 x2 y2 = true) (hi : inB x1 y1 x2 y2 px py = true) : mayB px py = true ∧ inB (firI k (colI k x1)) (firI k (colI k y1)) (lasI k (colI k x2)) (lasI k (colI k y2)) px py = true := by
  obtain ⟨a, b, c, d, e, f⟩ := rmayB_bd h
  obtain ⟨i1, i2, i3, i4⟩ := inB_iff.1 hi
  have hm : mayB px py = true := mayB_iff.2 ⟨inR_iff.2 ⟨by omega, by omega⟩, inR_iff.2 ⟨by omega, by omega⟩⟩
  exact ⟨hm, (in_boxB hm).2 ⟨col_mono i1, col_mono i2, col_mono i3, col_mono i4⟩⟩

/-- ps are the numbers of the cells of the rows (or columns) from a1 on, below a, and of those of row a from b1 on, below b; b1 to b2 in each. -/
def Coll (f : Nat → Nat → Int) (a1 b1 b2 a b : Nat) (ps : List Int) : Prop :=
  ps.Nodup ∧ (∀ x, x ∈ ps ↔ ∃ i j, a1 ≤ i ∧ b1 ≤ j ∧ j ≤ b2 ∧ (i < a ∨ i = a ∧ j < b) ∧ x = f i j) ∧ ps.length = (a - a1) * (b2 + 1 - b1) + (b - b1)
theorem Coll.start (f : Nat → Nat → Int) (a1 b1 b2 : Nat) : Coll f a1 b1 b2 a1 b1 [] := by
  refine ⟨List.nodup_nil, fun x => ⟨fun h => by simp at h, fun ⟨i, j, h1, h2, h3, h4, _⟩ => by omega⟩, by simp⟩
theorem Coll.next {f : Nat → Nat → Int} {a1 b1 b2 a b : Nat} {ps : List Int} (h : Coll f a1 b1 b2 a b ps) (ha : a1 ≤ a) (hb : b1 ≤ b) (hb2 : b ≤ b2)
    (hf : ∀ i j, i ≤ a → j ≤ b2 → f i j = f a b → i = a ∧ j = b) : Coll f a1 b1 b2 a (b + 1) (ps ++ [f a b]) := by
  refine ⟨?_, fun x => ?_, ?_⟩
  · rw [List.nodup_append]
    refine ⟨h.1, by simp, fun x hx y hy e => ?_⟩
    simp at hy
    subst hy
    subst e
    obtain ⟨i, j, h1, h2, h3, h4, h5⟩ := (h.2.1 _).1 hx
    have := hf i j (by omega) h3 h5.symm
    omega
  · rw [List.mem_append, h.2.1]
    constructor
    · rintro (⟨i, j, h1, h2, h3, h4, h5⟩ | hx)
      · exact ⟨i, j, h1, h2, h3, by omega, h5⟩
      · simp at hx
        exact ⟨a, b, ha, hb, hb2, by omega, hx⟩
    · rintro ⟨i, j, h1, h2, h3, h4, h5⟩
      by_cases e : i = a ∧ j = b
      · obtain ⟨rfl, rfl⟩ := e
        exact Or.inr (by simp [h5])
      · exact Or.inl ⟨i, j, h1, h2, h3, by omega, h5⟩
  · rw [List.length_append, h.2.2]
    simp
    omega
theorem Coll.row {f : Nat → Nat → Int} {a1 b1 b2 a : Nat} {ps : List Int} (h : Coll f a1 b1 b2 a (b2 + 1) ps) (ha : a1 ≤ a) (hb : b1 ≤ b2 + 1) : Coll f a1 b1 b2 (a + 1) b1 ps := by
  refine ⟨h.1, fun x => ?_, ?_⟩
  · rw [h.2.1]
    constructor
    · rintro ⟨i, j, h1, h2, h3, h4, h5⟩; exact ⟨i, j, h1, h2, h3, by omega, h5⟩
    · rintro ⟨i, j, h1, h2, h3, h4, h5⟩; exact ⟨i, j, h1, h2, h3, by omega, h5⟩
  · rw [h.2.2, show a + 1 - a1 = (a - a1) + 1 by omega, Nat.succ_mul]
    omega
/-- All of a block. -/
def Cells (f : Nat → Nat → Int) (a1 b1 a2 b2 : Nat) (ps : List Int) : Prop := ps.Nodup ∧ (∀ x, x ∈ ps ↔ ∃ i j, a1 ≤ i ∧ i ≤ a2 ∧ b1 ≤ j ∧ j ≤ b2 ∧ x = f i j) ∧ ps.length = (a2 + 1 - a1) * (b2 + 1 - b1)
theorem Coll.all {f : Nat → Nat → Int} {a1 b1 a2 b2 : Nat} {ps : List Int} (h : Coll f a1 b1 b2 (a2 + 1) b1 ps) : Cells f a1 b1 a2 b2 ps := by
  refine ⟨h.1, fun x => ?_, ?_⟩
  · rw [h.2.1]
    constructor
    · rintro ⟨i, j, h1, h2, h3, h4, h5⟩; exact ⟨i, j, h1, by omega, h2, h3, h5⟩
    · rintro ⟨i, j, h1, h2, h3, h4, h5⟩; exact ⟨i, j, h1, h3, h4, by omega, h5⟩
  · rw [h.2.2]; omega
theorem Coll.small {f : Nat → Nat → Int} {a1 b1 b2 a b : Nat} {ps : List Int} (h : Coll f a1 b1 b2 a b ps) (ha : a ≤ 200) (hb : b ≤ b2 + 1) (hb2 : b2 ≤ 199) : ps.length ≤ 1048000 := by
  rw [h.2.2]
  have : (a - a1) * (b2 + 1 - b1) ≤ 200 * 200 := Nat.mul_le_mul (by omega) (by omega)
  omega
end Go.Proofs.Ythakngphffoooaa.Cv
/-
  The plain facts behind layer 17 (zone): no program here. When a zone is, what is safe, and that a move is safe just if the box moved is held by the cover, just if its cover is within that.
-/
namespace Go.Proofs.Ythakngphffoooaa.Zn
open Go.RowKit Go.Proofs.Ythakngphffoooaa.Pt Go.Proofs.Ythakngphffoooaa.Rc Go.Proofs.Ythakngphffoooaa.Pts Go.Proofs.Ythakngphffoooaa.Pl Go.Proofs.Ythakngphffoooaa.Rg Go.Proofs.Ythakngphffoooaa.Mo
set_option linter.unusedVariables false
set_option linter.unusedSimpArgs false
open Go.Proofs.Ythakngphffoooaa.Cv
def ordR (r : R4) : Prop := r.x1 ≤ r.x2 ∧ r.y1 ≤ r.y2
theorem ordR_step {r : R4} {p : Pnt} (h : ordR r) : ordR (stepR r p) := by
  unfold ordR stepR at *
  dsimp only
  have := mn_cases r.x1 p.1
  have := mn_cases r.y1 p.2
  have := mx_cases r.x2 p.1
  have := mx_cases r.y2 p.2
  omega
theorem ordR_fold : ∀ (l : List Pnt) (r : R4), ordR r → ordR (l.foldl stepR r)
  | [], _, h => h
  | p :: t, r, h => ordR_fold t _ (ordR_step h)
theorem rgX_may {a b c d : Int} {l : List Pnt} (h : rgB a b c d l = true) : rmayB (rgX a b c d l).x1 (rgX a b c d l).y1 (rgX a b c d l).x2 (rgX a b c d l).y2 = true := by
  unfold rgX
  split
  · rename_i h0
    rw [rgB_no h0] at h
    exact h
  · rename_i h0
    have hm := (simpleB_all (rgB_simple (by omega) h).2).1
    cases l with
    | nil => simp at h0
    | cons p t =>
      rw [ofR_yes hm]
      have hp : pmay p = true := List.all_eq_true.1 hm p (by simp)
      obtain ⟨i1, i2, i3, i4⟩ := okR_acc (k := (p :: t).length) hp (by rw [List.take_of_length_le (Nat.le_refl _)]; exact hm)
      obtain ⟨j1, j2⟩ : ordR (accR p (p :: t) (p :: t).length) := ordR_fold _ _ ⟨Int.le_refl _, Int.le_refl _⟩
      rw [inR_iff] at i1 i2 i3 i4
      exact rmayB_mk (by omega)
/-- There is a zone. -/
def zB (a b c d : Int) (l : List Pnt) (x1 y1 x2 y2 : Int) : Bool := rgB a b c d l && (rmayB x1 y1 x2 y2 && holdsB x1 y1 x2 y2 (rgX a b c d l).x1 (rgX a b c d l).y1 (rgX a b c d l).x2 (rgX a b c d l).y2)
/-- A zone's number: 0 where there is none. -/
def zc (q : Bool) (x : Int) : Int := if q then x else 0
/-- A move is safe. -/
def sfB (a b c d : Int) (l : List Pnt) (x1 y1 x2 y2 : Int) (v : Pnt) : Bool := (zB a b c d l x1 y1 x2 y2) && inB (x1 - (rgX a b c d l).x1) (y1 - (rgX a b c d l).y1) (x2 - (rgX a b c d l).x2) (y2 - (rgX a b c d l).y2) v.1 v.2
theorem wrap_less {x y : Int} (hx : -1073741824 ≤ x ∧ x ≤ 1073741824) (hy : -1073741824 ≤ y ∧ y ≤ 1073741824) : IntKind.i64.wrap (x - y) = x - y := IntWalk.i64_in _ (by omega)
theorem held_iff {x1 y1 x2 y2 u1 v1 u2 v2 : Int} : holdsB x1 y1 x2 y2 u1 v1 u2 v2 = true ↔ (x1 ≤ u1 ∧ u1 ≤ x2 ∧ y1 ≤ v1 ∧ v1 ≤ y2) ∧ (x1 ≤ u2 ∧ u2 ≤ x2 ∧ y1 ≤ v2 ∧ v2 ≤ y2) := by rw [holdsB_iff, inB_iff, inB_iff]
theorem bool_iff {p q : Bool} (h : p = true ↔ q = true) : p = q := by cases p <;> cases q <;> simp_all
/-- The box of a rectangle's cover. -/
def cvX (k : Nat) (r : R4) : R4 := ⟨firI k (colI k r.x1), firI k (colI k r.y1), lasI k (colI k r.x2), lasI k (colI k r.y2)⟩
theorem cv_zone {a b c d : Int} {l : List Pnt} (k : Nat) (h : rgB a b c d l = true) : zB a b c d l (cvX k (rgX a b c d l)).x1 (cvX k (rgX a b c d l)).y1 (cvX k (rgX a b c d l)).x2 (cvX k (rgX a b c d l)).y2 = true := by
  unfold zB cvX
  have hm := rgX_may h
  dsimp only
  rw [h, box_may hm, box_holds hm]
  rfl
theorem cv_rest {a b c d : Int} {l : List Pnt} (k : Nat) (h : rgB a b c d l = true) : sfB a b c d l (cvX k (rgX a b c d l)).x1 (cvX k (rgX a b c d l)).y1 (cvX k (rgX a b c d l)).x2 (cvX k (rgX a b c d l)).y2 (0, 0) = true := by
  unfold sfB
  rw [cv_zone k h, Bool.true_and]
  have hh := held_iff.1 (box_holds (k := k) (rgX_may h))
  rw [inB_iff]
  unfold cvX
  dsimp only
  omega
theorem cv_safe {a b c d : Int} {l : List Pnt} {v : Pnt} (k : Nat) (h : rgB a b c d l = true) (hm : rmayB (shR (rgX a b c d l) v).x1 (shR (rgX a b c d l) v).y1 (shR (rgX a b c d l) v).x2 (shR (rgX a b c d l) v).y2 = true) :
    sfB a b c d l (cvX k (rgX a b c d l)).x1 (cvX k (rgX a b c d l)).y1 (cvX k (rgX a b c d l)).x2 (cvX k (rgX a b c d l)).y2 v = holdsB (cvX k (rgX a b c d l)).x1 (cvX k (rgX a b c d l)).y1 (cvX k (rgX a b c d l)).x2 (cvX k (rgX a b c d l)).y2 (shR (rgX a b c d l) v).x1 (shR (rgX a b c d l) v).y1 (shR (rgX a b c d l) v).x2 (shR (rgX a b c d l) v).y2 := by
  refine bool_iff ?_
  unfold sfB
  rw [cv_zone k h, Bool.true_and, inB_iff, held_iff]
  have h1 := rmayB_bd (rgX_may h)
  have h2 := held_iff.1 (box_holds (k := k) (rgX_may h))
  have h3 := rmayB_bd hm
  unfold cvX
  unfold shR at h3 ⊢
  dsimp only at h3 ⊢
  omega
theorem cv_within {r s : R4} (k : Nat) (h1 : rmayB r.x1 r.y1 r.x2 r.y2 = true) (h2 : rmayB s.x1 s.y1 s.x2 s.y2 = true) :
    holdsB (cvX k r).x1 (cvX k r).y1 (cvX k r).x2 (cvX k r).y2 s.x1 s.y1 s.x2 s.y2 = holdsB (cvX k r).x1 (cvX k r).y1 (cvX k r).x2 (cvX k r).y2 (cvX k s).x1 (cvX k s).y1 (cvX k s).x2 (cvX k s).y2 := by
  obtain ⟨a1, a2, a3, a4, a5, a6⟩ := rmayB_bd h1
  obtain ⟨b1, b2, b3, b4, b5, b6⟩ := rmayB_bd h2
  have hs := held_iff.1 (box_holds (k := k) h2)
  have hr := held_iff.1 (box_holds (k := k) h1)
  obtain ⟨c1, c2, c3, c4, c5, c6⟩ := rmayB_bd (box_may (k := k) h2)
  refine bool_iff ?_
  rw [held_iff, held_iff]
  unfold cvX
  dsimp only
  have e1 : firI k (colI k r.x1) ≤ s.x1 → firI k (colI k r.x1) ≤ firI k (colI k s.x1) := fun h => fir_mono (fir_le.1 h)
  have e2 : firI k (colI k r.y1) ≤ s.y1 → firI k (colI k r.y1) ≤ firI k (colI k s.y1) := fun h => fir_mono (fir_le.1 h)
  have e3 : s.x2 ≤ lasI k (colI k r.x2) → lasI k (colI k s.x2) ≤ lasI k (colI k r.x2) := fun h => las_mono ((le_las b3).1 h)
  have e4 : s.y2 ≤ lasI k (colI k r.y2) → lasI k (colI k s.y2) ≤ lasI k (colI k r.y2) := fun h => las_mono ((le_las b6).1 h)
  omega
end Go.Proofs.Ythakngphffoooaa.Zn
/-
  New blocks of five and six cells, beside Keep and KeepR. No program here.
-/
namespace Go.Proofs.Ythakngphffoooaa.Kp
open Go.RowKit

variable {w W w1 : World} {N : Nat}
theorem ad10 (h : N ≤ W.heap.size ∧ Below N w W) (b : Nat) (e : W.heap.size = b) (x : Value) (t : TypeId) :
    (W.alloc (.cells #[x] t)).cell? ⟨b, 0, none⟩ = some x ∧ N ≤ (W.alloc (.cells #[x] t)).heap.size ∧ Below N w (W.alloc (.cells #[x] t)) := by
  subst e
  exact ⟨by simp [go_sem], ends (behind ..) h⟩
theorem ad30 (h : N ≤ W.heap.size ∧ Below N w W) (b : Nat) (e : W.heap.size = b) (x y z : Value) (t : TypeId) :
    (W.alloc (.cells #[x, y, z] t)).cell? ⟨b, 0, none⟩ = some x ∧ (W.alloc (.cells #[x, y, z] t)).cell? ⟨b, 1, none⟩ = some y ∧ (W.alloc (.cells #[x, y, z] t)).cell? ⟨b, 2, none⟩ = some z ∧ N ≤ (W.alloc (.cells #[x, y, z] t)).heap.size ∧ Below N w (W.alloc (.cells #[x, y, z] t)) := by
  subst e
  exact ⟨by simp [go_sem], by simp [go_sem], by simp [go_sem], ends (behind ..) h⟩
theorem ad50 (h : N ≤ W.heap.size ∧ Below N w W) (b : Nat) (e : W.heap.size = b) (x y z u s : Value) (t : TypeId) :
    (W.alloc (.cells #[x, y, z, u, s] t)).cell? ⟨b, 0, none⟩ = some x ∧ (W.alloc (.cells #[x, y, z, u, s] t)).cell? ⟨b, 1, none⟩ = some y ∧ (W.alloc (.cells #[x, y, z, u, s] t)).cell? ⟨b, 2, none⟩ = some z ∧ (W.alloc (.cells #[x, y, z, u, s] t)).cell? ⟨b, 3, none⟩ = some u ∧ (W.alloc (.cells #[x, y, z, u, s] t)).cell? ⟨b, 4, none⟩ = some s ∧ N ≤ (W.alloc (.cells #[x, y, z, u, s] t)).heap.size ∧ Below N w (W.alloc (.cells #[x, y, z, u, s] t)) := by
  subst e
  exact ⟨by simp [go_sem], by simp [go_sem], by simp [go_sem], by simp [go_sem], by simp [go_sem], ends (behind ..) h⟩
/-- A block below is not frozen: so it stays. -/
theorem soft {W w1 : World} {b : Nat} (hb : Below W.heap.size W w1) (hlt : b < W.heap.size) (h : ∀ o, W.frozen? ⟨b, o, none⟩ = false) : ∀ o, w1.frozen? ⟨b, o, none⟩ = false :=
  fun o => (World.frozen?_of_block (w := W) (a := ⟨b, o, none⟩) (hb.block b hlt)).trans (h o)
theorem newsoft (W : World) (b : Nat) (e : W.heap.size = b) (vs : Array Value) (t : TypeId) : ∀ o, (W.alloc (.cells vs t)).frozen? ⟨b, o, none⟩ = false := by
  subst e
  intro o
  simp [go_sem]
end Go.Proofs.Ythakngphffoooaa.Kp
/-
  Contracts of May of layer 1 (point) and of its document's answer, for any point. Memory that was there is left as it was.
-/
namespace Go.Proofs.Ythakngphffoooaa.Pt
open Go.RowKit

theorem inRange_any (n : Int) (w : World) : Calls Try.prog 51 #[.int .i64 n] w fun e w' => e = .returned (.bool (inR n)) ∧ w = w' := by
  by_cases h1 : -1073741824 ≤ n
  · by_cases h2 : n ≤ 1073741824
    · rw [show inR n = true from inR_iff.2 ⟨h1, h2⟩]
      go_enter Try.func51, Try.ntmps51
      go_wp2
      go_ret
      exact ⟨rfl, rfl⟩
    · rw [show inR n = false from inR_no (by omega)]
      go_enter Try.func51, Try.ntmps51
      go_wp2
      go_ret
      exact ⟨rfl, rfl⟩
  · rw [show inR n = false from inR_no (by omega)]
    go_enter Try.func51, Try.ntmps51
    go_wp2
    go_ret
    exact ⟨rfl, rfl⟩

theorem far_any (n : Int) (w : World) : Calls Try.prog 52 #[.int .i64 n] w fun e w' => e = .returned (.bool (!inR n)) ∧ w = w' := by
  by_cases h1 : n < -1073741824
  · rw [show inR n = false from inR_no (by omega)]
    go_enter Try.func52, Try.ntmps52
    go_wp2
    go_ret
    exact ⟨rfl, rfl⟩
  · by_cases h2 : 1073741824 < n
    · rw [show inR n = false from inR_no (by omega)]
      go_enter Try.func52, Try.ntmps52
      go_wp2
      go_ret
      exact ⟨rfl, rfl⟩
    · rw [show inR n = true from inR_iff.2 (by omega)]
      go_enter Try.func52, Try.ntmps52
      go_wp2
      go_ret
      exact ⟨rfl, rfl⟩

theorem bcell {W w1 : World} (hb : Below W.heap.size W w1) : (∀ b o, b < W.heap.size → w1.cell? ⟨b, o, none⟩ = W.cell? ⟨b, o, none⟩) ∧ (∀ b o, b < W.heap.size → w1.frozen? ⟨b, o, none⟩ = W.frozen? ⟨b, o, none⟩) :=
  ⟨fun b o h => hb.cell (p := ⟨b, o, none⟩) h, fun b o h => hb.frozen (p := ⟨b, o, none⟩) h⟩
theorem mayB_bd {x y : Int} (h : mayB x y = true) : inR x = true ∧ inR y = true := mayB_iff.1 h

theorem may_any (x y : Int) (w : World) : Calls Try.prog 32 #[.agg #[.int .i64 x, .int .i64 y]] w fun e w' => e = .returned (.bool (mayB x y)) ∧ Below w.heap.size w w' := by
  by_cases h1 : inR x = true
  · rw [show mayB x y = inR y by unfold mayB; rw [h1]; rfl]
    go_enter Try.func32, Try.ntmps32
    go_wp2_with (go_at_call 51; refine (inRange_any _ _).mono ?_; rintro e w' ⟨rfl, rfl⟩)
    go_ret
    exact ⟨rfl, (Below.refl _ _).alloc (Nat.le_refl _) _⟩
  · have h0 : inR x = false := by simpa using h1
    rw [show mayB x y = false by unfold mayB; rw [h0]; rfl]
    go_enter Try.func32, Try.ntmps32
    go_wp2_with (go_at_call 51; refine (inRange_any _ _).mono ?_; rintro e w' ⟨rfl, rfl⟩)
    go_ret
    exact ⟨rfl, (Below.refl _ _).alloc (Nat.le_refl _) _⟩

theorem refMay_any (x y : Int) (w : World) : Calls Try.prog 37 #[.agg #[.int .i64 x, .int .i64 y]] w fun e w' => e = .returned (.bool (mayB x y)) ∧ Below w.heap.size w w' := by
  by_cases h1 : inR x = true
  · rw [show mayB x y = inR y by unfold mayB; rw [h1]; rfl]
    go_enter Try.func37, Try.ntmps37
    go_wp2_with (go_at_call 52; refine (far_any _ _).mono ?_; rintro e w' ⟨rfl, rfl⟩)
    go_ret
    exact ⟨by simp, (Below.refl _ _).alloc (Nat.le_refl _) _⟩
  · have h0 : inR x = false := by simpa using h1
    rw [show mayB x y = false by unfold mayB; rw [h0]; rfl]
    go_enter Try.func37, Try.ntmps37
    go_wp2_with (go_at_call 52; refine (far_any _ _).mono ?_; rintro e w' ⟨rfl, rfl⟩)
    go_ret
    exact ⟨rfl, (Below.refl _ _).alloc (Nat.le_refl _) _⟩
end Go.Proofs.Ythakngphffoooaa.Pt
/-
  Contracts of the small functions at, follows and allMay of layer 3 (poly), for a list of 1 to 70 points. Memory that was there is left as it was.
-/
namespace Go.Proofs.Ythakngphffoooaa.Pl
open Go.RowKit Go.Proofs.Ythakngphffoooaa.Pt Go.Proofs.Ythakngphffoooaa.Rc Go.Proofs.Ythakngphffoooaa.Pts
set_option linter.unusedVariables false

/-- Where the vertex at j lies, gone round. -/
theorem at_cell {w : World} {B : Nat} {A : Option Addr} {l : List Pnt} (hA : PtsAt w B A l) (h0 : 0 < l.length) (j : Int) (hj : 0 ≤ j) :
    ∃ (b off r : Nat) (X Y : Int), A = some ⟨b, off, none⟩ ∧ b < B ∧ Int.tmod j (l.length : Int) = (r : Int) ∧ r < l.length ∧ X = (at_ l j).1 ∧ Y = (at_ l j).2 ∧ w.cell? ⟨b, off + r * 2, none⟩ = some (.int .i64 X) ∧ w.cell? ⟨b, off + r * 2 + 1, none⟩ = some (.int .i64 Y) := by
  obtain ⟨b, off, e, hb, hc⟩ := hA (by intro h; subst h; simp at h0)
  have h1 : 0 ≤ j % (l.length : Int) := Int.emod_nonneg _ (by omega)
  have h2 : j % (l.length : Int) < (l.length : Int) := Int.emod_lt_of_pos _ (by omega)
  have hr : (j % (l.length : Int)).toNat < l.length := by omega
  have ea : at_ l j = l[(j % (l.length : Int)).toNat] := by
    unfold at_
    rw [List.getD_eq_getElem?_getD, List.getElem?_eq_getElem hr]; rfl
  refine ⟨b, off, (j % (l.length : Int)).toNat, (at_ l j).1, (at_ l j).2, e, hb, ?_, hr, rfl, rfl, ?_, ?_⟩
  · rw [Int.tmod_eq_emod_of_nonneg hj]; omega
  · rw [ea]; exact (hc _ hr).1
  · rw [ea]; exact (hc _ hr).2

theorem at_any (l : List Pnt) (A : Option Addr) (c : Nat) (j : Int) (w : World) (hA : PtsAt w w.heap.size A l) (h0 : 0 < l.length) (hn : l.length ≤ 70) (hj0 : 0 ≤ j) :
    Calls Try.prog 67 #[.slice A l.length c, .int .i64 j] w fun e w' => e = .returned (.agg #[.int .i64 (at_ l j).1, .int .i64 (at_ l j).2]) ∧ Below w.heap.size w w' := by
  obtain ⟨b, off, r, X, Y, rfl, hb, hr, hrl, hX, hY, c1, c2⟩ := at_cell hA h0 j hj0
  rw [← hX, ← hY]
  obtain ⟨n, e⟩ : ∃ n, n = l.length := ⟨_, rfl⟩
  rw [← e] at hn hr hrl h0 ⊢
  clear e hX hY hA
  have hn0 : (0 : Int) < (n : Int) := by omega
  have hr0 : (0 : Int) ≤ (r : Int) := by omega
  have hr1 : (r : Int) < (n : Int) := by omega
  go_enter Try.func67, Try.ntmps67
  go_wp2
  refine bodyPost_ret (v := .agg #[.int .i64 X, .int .i64 Y]) (by simp [results, Try.results67, go_sem]) rfl ⟨rfl, ?_⟩
  exact (Below.refl _ _).alloc (Nat.le_refl _) _

theorem mod_of {j n : Nat} (h : 0 < n) : ∃ r : Nat, Int.tmod ((j : Int) + 1) (n : Int) = (r : Int) ∧ r = (j + 1) % n ∧ r < n :=
  ⟨(j + 1) % n, by rw [Int.tmod_eq_emod_of_nonneg (by omega)]; exact (Int.natCast_emod (j + 1) n).symm, rfl, Nat.mod_lt _ h⟩

theorem follows_any (A : Option Addr) (n c i j : Nat) (w : World) (h0 : 0 < n) (hn : n ≤ 70) (hj : j ≤ 200) :
    Calls Try.prog 69 #[.slice A n c, .int .i64 i, .int .i64 j] w fun e w' => e = .returned (.bool (decide (i = (j + 1) % n))) ∧ Below w.heap.size w w' := by
  obtain ⟨r, hr, hr2, hr3⟩ := mod_of (j := j) h0
  rw [← hr2]
  clear hr2
  have hn0 : (0 : Int) < (n : Int) := by omega
  go_enter Try.func69, Try.ntmps69
  go_wp2
  go_ret
  have e : ((i : Int) == (r : Int)) = decide (i = r) := by rw [Bool.eq_iff_iff]; simp; omega
  exact ⟨by simp [e], Below.refl _ _⟩

/-- What holds at the head of each round of allMay's loop. -/
def MayRel (w : World) (l : List Pnt) (i : Value) (wr : World) : Prop := ∃ k : Nat, k ≤ l.length ∧ i = .int .i64 k ∧ (l.take k).all pmay = true ∧ Below w.heap.size w wr

set_option maxHeartbeats 1000000 in
theorem allMay_any (l : List Pnt) (A : Option Addr) (c : Nat) (w : World) (hA : PtsAt w w.heap.size A l) (h0 : 0 < l.length) (hn : l.length ≤ 70) :
    Calls Try.prog 62 #[.slice A l.length c] w fun e w' => e = .returned (.bool (l.all pmay)) ∧ Below w.heap.size w w' := by
  obtain ⟨b, off, rfl, hb, hc⟩ := hA (by intro h; subst h; simp at h0)
  obtain ⟨n, e⟩ : ∃ n, n = l.length := ⟨_, rfl⟩
  have HC := Lib.hid hc
  rw [← e] at hn h0 ⊢
  have E := Lib.hid e
  clear e hc hA
  go_enter Try.func62, Try.ntmps62
  go_wp2_with fail
  go_loopw [7] (fun i wr => MayRel w l i wr) (fun i _ => n - (intOf i).toNat)
  case atStart => exact ⟨0, Nat.zero_le _, rfl, rfl, Below.refl _ _⟩
  case round =>
    obtain ⟨k, hk, rfl, hall, hB⟩ := hrel
    by_cases hlt : k < n
    · have hkl : k < l.length := by rw [← E.out]; exact hlt
      obtain ⟨X, hX⟩ : ∃ X, X = l[k].1 := ⟨_, rfl⟩
      obtain ⟨Y, hY⟩ : ∃ Y, Y = l[k].2 := ⟨_, rfl⟩
      have c1 : wr.cell? ⟨b, off + k * 2, none⟩ = some (.int .i64 X) := by rw [hX]; exact (hB.cell (p := ⟨b, off + k * 2, none⟩) hb).trans (HC.out k hkl).1
      have c2 : wr.cell? ⟨b, off + k * 2 + 1, none⟩ = some (.int .i64 Y) := by rw [hY]; exact (hB.cell (p := ⟨b, off + k * 2 + 1, none⟩) hb).trans (HC.out k hkl).2
      have HX := Lib.hid hX
      have HY := Lib.hid hY
      have HA := Lib.hid hall
      clear hX hY hall
      have hk0 : (0 : Int) ≤ (k : Int) := by omega
      have hk1 : (k : Int) < (n : Int) := by omega
      go_wp2_with fail
      refine (may_any _ _ _).mono ?_
      rintro e w2 ⟨rfl, hb2⟩
      have B2 : Below w.heap.size w w2 := (hB.alloc hB.size _).trans (hb2.mono (by have := hB.size; simp; omega))
      clear hb2 c1 c2
      cases hm : mayB X Y
      · go_wp2_with fail
        have hno : l.all pmay = false := all_no hkl (by unfold pmay; rw [← HX.out, ← HY.out]; exact hm)
        rw [hno]
        go_ret
        exact ⟨rfl, B2⟩
      · go_wp2_with fail
        go_roundw
        case rel => exact ⟨k + 1, by omega, by go_num, all_succ hkl HA.out (by unfold pmay; rw [← HX.out, ← HY.out]; exact hm), B2⟩
        case measure => simp [intOf]; omega
    · have hkn : k = n := by have := E.out; omega
      have hyes : l.all pmay = true := by
        rw [hkn, E.out, List.take_of_length_le (Nat.le_refl _)] at hall; exact hall
      have HY := Lib.hid hyes
      clear hall hkn hyes
      go_wp2_with fail
      rw [HY.out]
      go_ret
      exact ⟨rfl, hB⟩
end Go.Proofs.Ythakngphffoooaa.Pl
/-
  Contracts of the small functions of layer 1 (point) and of their document's answers: what each returns for any integers; memory is left as it was.
-/
namespace Go.Proofs.Ythakngphffoooaa.Pt
open Go.RowKit

theorem isNaN_any (n : Int) (w : World) : Calls Try.prog 77 #[.int .i64 n] w fun e w' => e = .returned (.bool false) ∧ w = w' := by
  go_enter Try.func77, Try.ntmps77
  go_wp2
  go_ret
  exact ⟨by simp, rfl⟩

theorem compare_any (p q : Int) (w : World) : Calls Try.prog 75 #[.int .i64 p, .int .i64 q] w fun e w' => e = .returned (.int .i64 (sgn p q)) ∧ w = w' := by
  by_cases h1 : p < q
  · rw [sgn_lt h1]
    go_enter Try.func75, Try.ntmps75
    go_wp2_with (go_at_call 77; refine (isNaN_any _ _).mono ?_; rintro e w' ⟨rfl, rfl⟩)
    go_ret
    exact ⟨rfl, rfl⟩
  · by_cases h2 : q < p
    · rw [sgn_gt h2]
      go_enter Try.func75, Try.ntmps75
      go_wp2_with (go_at_call 77; refine (isNaN_any _ _).mono ?_; rintro e w' ⟨rfl, rfl⟩)
      go_ret
      exact ⟨rfl, rfl⟩
    · obtain rfl : p = q := by omega
      rw [sgn_eq]
      go_enter Try.func75, Try.ntmps75
      go_wp2_with (go_at_call 77; refine (isNaN_any _ _).mono ?_; rintro e w' ⟨rfl, rfl⟩)
      go_ret
      exact ⟨rfl, rfl⟩

theorem between_any (a b n : Int) (w : World) : Calls Try.prog 76 #[.int .i64 a, .int .i64 b, .int .i64 n] w fun e w' => e = .returned (.bool (btw a b n)) ∧ w = w' := by
  by_cases h1 : a ≤ n
  · by_cases h2 : n ≤ b
    · rw [show btw a b n = true from btw_iff.2 (by omega)]
      go_enter Try.func76, Try.ntmps76
      go_wp2
      go_ret
      exact ⟨rfl, rfl⟩
    · have h3 : b ≤ n := by omega
      by_cases h4 : n ≤ a
      · rw [show btw a b n = true from btw_iff.2 (by omega)]
        go_enter Try.func76, Try.ntmps76
        go_wp2
        go_ret
        exact ⟨rfl, rfl⟩
      · rw [show btw a b n = false from btw_no (by omega)]
        go_enter Try.func76, Try.ntmps76
        go_wp2
        go_ret
        exact ⟨rfl, rfl⟩
  · have h4 : n ≤ a := by omega
    by_cases h3 : b ≤ n
    · rw [show btw a b n = true from btw_iff.2 (by omega)]
      go_enter Try.func76, Try.ntmps76
      go_wp2
      go_ret
      exact ⟨rfl, rfl⟩
    · rw [show btw a b n = false from btw_no (by omega)]
      go_enter Try.func76, Try.ntmps76
      go_wp2
      go_ret
      exact ⟨rfl, rfl⟩

theorem within_any (a b n : Int) (w : World) : Calls Try.prog 57 #[.int .i64 a, .int .i64 b, .int .i64 n] w fun e w' => e = .returned (.bool (btw a b n)) ∧ w = w' := by
  by_cases h1 : a ≤ n
  · by_cases h2 : n ≤ b
    · rw [show btw a b n = true from btw_iff.2 (by omega)]
      go_enter Try.func57, Try.ntmps57
      go_wp2
      go_ret
      exact ⟨rfl, rfl⟩
    · have h3 : b ≤ n := by omega
      by_cases h4 : n ≤ a
      · rw [show btw a b n = true from btw_iff.2 (by omega)]
        go_enter Try.func57, Try.ntmps57
        go_wp2
        go_ret
        exact ⟨rfl, rfl⟩
      · rw [show btw a b n = false from btw_no (by omega)]
        go_enter Try.func57, Try.ntmps57
        go_wp2
        go_ret
        exact ⟨rfl, rfl⟩
  · have h4 : n ≤ a := by omega
    by_cases h3 : b ≤ n
    · rw [show btw a b n = true from btw_iff.2 (by omega)]
      go_enter Try.func57, Try.ntmps57
      go_wp2
      go_ret
      exact ⟨rfl, rfl⟩
    · rw [show btw a b n = false from btw_no (by omega)]
      go_enter Try.func57, Try.ntmps57
      go_wp2
      go_ret
      exact ⟨rfl, rfl⟩
end Go.Proofs.Ythakngphffoooaa.Pt
/-
  Contracts of May, Turn, On of layer 1 (point) and of their document's answers: May for any point; Turn, On for points that may be. Memory that was there is left as it was.
-/
namespace Go.Proofs.Ythakngphffoooaa.Pt
open Go.RowKit

theorem turn_any (ax ay bx b2 cx cy : Int) (w : World) (ha : mayB ax ay = true) (hb : mayB bx b2 = true) (hc : mayB cx cy = true) :
    Calls Try.prog 71 #[.agg #[.int .i64 ax, .int .i64 ay], .agg #[.int .i64 bx, .int .i64 b2], .agg #[.int .i64 cx, .int .i64 cy]] w fun e w' => e = .returned (.int .i64 (turnI ax ay bx b2 cx cy)) ∧ Below w.heap.size w w' := by
  obtain ⟨a1, a2⟩ := mayB_bd ha; obtain ⟨b1, c1⟩ := mayB_bd hb; obtain ⟨d1, d2⟩ := mayB_bd hc
  have p1 := prod_bd b1 a1 d2 a2
  have p2 := prod_bd c1 a2 d1 a1
  rw [inR_iff] at a1 a2 b1 c1 d1 d2
  clear ha hb hc
  obtain ⟨_, _⟩ := a1; obtain ⟨_, _⟩ := a2; obtain ⟨_, _⟩ := b1; obtain ⟨_, _⟩ := c1; obtain ⟨_, _⟩ := d1; obtain ⟨_, _⟩ := d2; obtain ⟨_, _⟩ := p1; obtain ⟨_, _⟩ := p2
  go_enter Try.func71, Try.ntmps71
  go_wp2_with (go_at_call 75; refine (compare_any _ _ _).mono ?_; rintro e w' ⟨rfl, rfl⟩)
  go_ret
  exact ⟨rfl, (((Below.refl _ _).alloc (Nat.le_refl _) _).alloc (by simp) _).alloc (by simp; omega) _⟩

theorem refTurn_any (ax ay bx b2 cx cy : Int) (w : World) (ha : mayB ax ay = true) (hb : mayB bx b2 = true) (hc : mayB cx cy = true) :
    Calls Try.prog 58 #[.agg #[.int .i64 ax, .int .i64 ay], .agg #[.int .i64 bx, .int .i64 b2], .agg #[.int .i64 cx, .int .i64 cy]] w fun e w' => e = .returned (.int .i64 (turnI ax ay bx b2 cx cy)) ∧ Below w.heap.size w w' := by
  obtain ⟨a1, a2⟩ := mayB_bd ha; obtain ⟨b1, c1⟩ := mayB_bd hb; obtain ⟨d1, d2⟩ := mayB_bd hc
  have p1 := prod_bd b1 a1 d2 a2
  have p2 := prod_bd c1 a2 d1 a1
  rw [inR_iff] at a1 a2 b1 c1 d1 d2
  clear ha hb hc
  obtain ⟨_, _⟩ := a1; obtain ⟨_, _⟩ := a2; obtain ⟨_, _⟩ := b1; obtain ⟨_, _⟩ := c1; obtain ⟨_, _⟩ := d1; obtain ⟨_, _⟩ := d2; obtain ⟨_, _⟩ := p1; obtain ⟨_, _⟩ := p2
  have fin : Below w.heap.size w (((w.alloc (.cells #[.int .i64 ax, .int .i64 ay] 28)).alloc (.cells #[.int .i64 bx, .int .i64 b2] 28)).alloc (.cells #[.int .i64 cx, .int .i64 cy] 28)) :=
    (((Below.refl _ _).alloc (Nat.le_refl _) _).alloc (by simp) _).alloc (by simp; omega) _
  by_cases h1 : (b2 - ay) * (cx - ax) < (bx - ax) * (cy - ay)
  · rw [show turnI ax ay bx b2 cx cy = 1 from sgn_gt h1]
    go_enter Try.func58, Try.ntmps58
    go_wp2
    go_ret
    exact ⟨rfl, fin⟩
  · by_cases h2 : (bx - ax) * (cy - ay) < (b2 - ay) * (cx - ax)
    · rw [show turnI ax ay bx b2 cx cy = -1 from sgn_lt h2]
      go_enter Try.func58, Try.ntmps58
      go_wp2
      go_ret
      exact ⟨rfl, fin⟩
    · rw [show turnI ax ay bx b2 cx cy = 0 by unfold turnI; rw [show (bx - ax) * (cy - ay) = (b2 - ay) * (cx - ax) by omega]; exact sgn_eq _]
      go_enter Try.func58, Try.ntmps58
      go_wp2
      go_ret
      exact ⟨rfl, fin⟩
end Go.Proofs.Ythakngphffoooaa.Pt
/-
  Contracts of inBox and On of layer 1 (point) and of On's document's answer, for points that may be. Memory that was there is left as it was.
-/
namespace Go.Proofs.Ythakngphffoooaa.Pt
open Go.RowKit

theorem inBox_any (ax ay bx b2 cx cy : Int) (w : World) :
    Calls Try.prog 72 #[.agg #[.int .i64 ax, .int .i64 ay], .agg #[.int .i64 bx, .int .i64 b2], .agg #[.int .i64 cx, .int .i64 cy]] w fun e w' => e = .returned (.bool (boxB ax ay bx b2 cx cy)) ∧ Below w.heap.size w w' := by
  by_cases h1 : btw ax bx cx = true
  · rw [show boxB ax ay bx b2 cx cy = btw ay b2 cy by unfold boxB; rw [h1]; rfl]
    go_enter Try.func72, Try.ntmps72
    go_wp2_with (go_at_call 76; refine (between_any _ _ _ _).mono ?_; rintro e w' ⟨rfl, rfl⟩)
    go_ret
    exact ⟨rfl, (((Below.refl _ _).alloc (Nat.le_refl _) _).alloc (by simp) _).alloc (by simp; omega) _⟩
  · have h0 : btw ax bx cx = false := by simpa using h1
    rw [show boxB ax ay bx b2 cx cy = false by unfold boxB; rw [h0]; rfl]
    go_enter Try.func72, Try.ntmps72
    go_wp2_with (go_at_call 76; refine (between_any _ _ _ _).mono ?_; rintro e w' ⟨rfl, rfl⟩)
    go_ret
    exact ⟨rfl, (((Below.refl _ _).alloc (Nat.le_refl _) _).alloc (by simp) _).alloc (by simp; omega) _⟩

/-- Three blocks that a call lays for its arguments, and what a callee lays behind them. -/
theorem below3 {w w1 : World} {o1 o2 o3 : Obj} (h : Below (((w.alloc o1).alloc o2).alloc o3).heap.size (((w.alloc o1).alloc o2).alloc o3) w1) : Below w.heap.size w w1 :=
  ((((Below.refl _ _).alloc (Nat.le_refl _) _).alloc (by simp) _).alloc (by simp; omega) _).trans (h.mono (by simp; omega))

theorem on_any (ax ay bx b2 cx cy : Int) (w : World) (ha : mayB ax ay = true) (hb : mayB bx b2 = true) (hc : mayB cx cy = true) :
    Calls Try.prog 68 #[.agg #[.int .i64 ax, .int .i64 ay], .agg #[.int .i64 bx, .int .i64 b2], .agg #[.int .i64 cx, .int .i64 cy]] w fun e w' => e = .returned (.bool (onB ax ay bx b2 cx cy)) ∧ Below w.heap.size w w' := by
  have t := fun W => turn_any ax ay bx b2 cx cy W ha hb hc
  have T := Lib.hid t; clear t ha hb hc
  by_cases h1 : (turnI ax ay bx b2 cx cy == 0) = true
  · rw [onB_of_turn h1]
    go_enter Try.func68, Try.ntmps68
    go_wp2_with fail
    refine (T.out _).mono ?_
    rintro e w1 ⟨rfl, hb1⟩
    obtain ⟨hc1, hf1⟩ := bcell hb1
    have B1 := Lib.hid (below3 hb1)
    have hz1 : w.heap.size + 3 ≤ w1.heap.size := by have := hb1.size; simp at this; omega
    clear hb1
    go_wp2_with fail
    refine (inBox_any _ _ _ _ _ _ _).mono ?_
    rintro e w2 ⟨rfl, hb2⟩
    have B2 := Lib.hid (B1.out.trans (hb2.mono (by omega)))
    clear hb2
    go_wp2_with fail
    go_ret
    exact ⟨rfl, B2.out⟩
  · have h0 : (turnI ax ay bx b2 cx cy == 0) = false := by simpa using h1
    rw [onB_of_not h0]
    clear h1
    go_enter Try.func68, Try.ntmps68
    go_wp2_with fail
    refine (T.out _).mono ?_
    rintro e w1 ⟨rfl, hb1⟩
    have B1 := Lib.hid (below3 hb1)
    clear hb1
    go_wp2_with fail
    go_ret
    exact ⟨rfl, B1.out⟩
end Go.Proofs.Ythakngphffoooaa.Pt
namespace Go.Proofs.Ythakngphffoooaa.Pt
open Go.RowKit

/-- Four points laid in new blocks: what a callee that only makes memory leaves of them. -/
theorem keep4 {w W w1 : World} {a0 a1 b0 b1 c0 c1 d0 d1 : Value} (hb : Below W.heap.size W w1)
    (hs : W.cell? ⟨w.heap.size, 0, none⟩ = some a0 ∧ W.cell? ⟨w.heap.size, 1, none⟩ = some a1 ∧ W.cell? ⟨w.heap.size + 1, 0, none⟩ = some b0 ∧ W.cell? ⟨w.heap.size + 1, 1, none⟩ = some b1
      ∧ W.cell? ⟨w.heap.size + 1 + 1, 0, none⟩ = some c0 ∧ W.cell? ⟨w.heap.size + 1 + 1, 1, none⟩ = some c1 ∧ W.cell? ⟨w.heap.size + 1 + 1 + 1, 0, none⟩ = some d0 ∧ W.cell? ⟨w.heap.size + 1 + 1 + 1, 1, none⟩ = some d1
      ∧ w.heap.size + 4 ≤ W.heap.size ∧ Below w.heap.size w W) :
    w1.cell? ⟨w.heap.size, 0, none⟩ = some a0 ∧ w1.cell? ⟨w.heap.size, 1, none⟩ = some a1 ∧ w1.cell? ⟨w.heap.size + 1, 0, none⟩ = some b0 ∧ w1.cell? ⟨w.heap.size + 1, 1, none⟩ = some b1
      ∧ w1.cell? ⟨w.heap.size + 1 + 1, 0, none⟩ = some c0 ∧ w1.cell? ⟨w.heap.size + 1 + 1, 1, none⟩ = some c1 ∧ w1.cell? ⟨w.heap.size + 1 + 1 + 1, 0, none⟩ = some d0 ∧ w1.cell? ⟨w.heap.size + 1 + 1 + 1, 1, none⟩ = some d1
      ∧ w.heap.size + 4 ≤ w1.heap.size ∧ Below w.heap.size w w1 := by
  obtain ⟨h1, h2, h3, h4, h5, h6, h7, h8, hz, hB⟩ := hs
  obtain ⟨hc, _⟩ := bcell hb
  have hsz := hb.size
  refine ⟨?_, ?_, ?_, ?_, ?_, ?_, ?_, ?_, by omega, hB.trans (hb.mono (by omega))⟩
  · rw [hc _ _ (by omega)]; exact h1
  · rw [hc _ _ (by omega)]; exact h2
  · rw [hc _ _ (by omega)]; exact h3
  · rw [hc _ _ (by omega)]; exact h4
  · rw [hc _ _ (by omega)]; exact h5
  · rw [hc _ _ (by omega)]; exact h6
  · rw [hc _ _ (by omega)]; exact h7
  · rw [hc _ _ (by omega)]; exact h8

/-- Four points, laid. -/
theorem laid4 (w : World) (a0 a1 b0 b1 c0 c1 d0 d1 : Value) (t : TypeId) :
    let W := (((w.alloc (.cells #[a0, a1] t)).alloc (.cells #[b0, b1] t)).alloc (.cells #[c0, c1] t)).alloc (.cells #[d0, d1] t)
    W.cell? ⟨w.heap.size, 0, none⟩ = some a0 ∧ W.cell? ⟨w.heap.size, 1, none⟩ = some a1 ∧ W.cell? ⟨w.heap.size + 1, 0, none⟩ = some b0 ∧ W.cell? ⟨w.heap.size + 1, 1, none⟩ = some b1
      ∧ W.cell? ⟨w.heap.size + 1 + 1, 0, none⟩ = some c0 ∧ W.cell? ⟨w.heap.size + 1 + 1, 1, none⟩ = some c1 ∧ W.cell? ⟨w.heap.size + 1 + 1 + 1, 0, none⟩ = some d0 ∧ W.cell? ⟨w.heap.size + 1 + 1 + 1, 1, none⟩ = some d1
      ∧ w.heap.size + 4 ≤ W.heap.size ∧ Below w.heap.size w W := by
  intro W
  refine ⟨?_, ?_, ?_, ?_, ?_, ?_, ?_, ?_, ?_, ?_⟩
  all_goals try (simp [W, go_sem]; done)
  exact ((((Below.refl _ _).alloc (Nat.le_refl _) _).alloc (by simp) _).alloc (by simp; omega) _).alloc (by simp; omega) _
theorem drew4 {w W : World} {a0 a1 b0 b1 c0 c1 d0 d1 : Value}
    (hs : W.cell? ⟨w.heap.size, 0, none⟩ = some a0 ∧ W.cell? ⟨w.heap.size, 1, none⟩ = some a1 ∧ W.cell? ⟨w.heap.size + 1, 0, none⟩ = some b0 ∧ W.cell? ⟨w.heap.size + 1, 1, none⟩ = some b1
      ∧ W.cell? ⟨w.heap.size + 1 + 1, 0, none⟩ = some c0 ∧ W.cell? ⟨w.heap.size + 1 + 1, 1, none⟩ = some c1 ∧ W.cell? ⟨w.heap.size + 1 + 1 + 1, 0, none⟩ = some d0 ∧ W.cell? ⟨w.heap.size + 1 + 1 + 1, 1, none⟩ = some d1
      ∧ w.heap.size + 4 ≤ W.heap.size ∧ Below w.heap.size w W) :
    W.drew.cell? ⟨w.heap.size, 0, none⟩ = some a0 ∧ W.drew.cell? ⟨w.heap.size, 1, none⟩ = some a1 ∧ W.drew.cell? ⟨w.heap.size + 1, 0, none⟩ = some b0 ∧ W.drew.cell? ⟨w.heap.size + 1, 1, none⟩ = some b1
      ∧ W.drew.cell? ⟨w.heap.size + 1 + 1, 0, none⟩ = some c0 ∧ W.drew.cell? ⟨w.heap.size + 1 + 1, 1, none⟩ = some c1 ∧ W.drew.cell? ⟨w.heap.size + 1 + 1 + 1, 0, none⟩ = some d0 ∧ W.drew.cell? ⟨w.heap.size + 1 + 1 + 1, 1, none⟩ = some d1
      ∧ w.heap.size + 4 ≤ W.drew.heap.size ∧ Below w.heap.size w W.drew := by
  obtain ⟨h1, h2, h3, h4, h5, h6, h7, h8, hz, hB⟩ := hs
  exact ⟨h1, h2, h3, h4, h5, h6, h7, h8, hz, hB.drew⟩
/-- What is left of memory behind the last of them. -/
theorem last4 {p0 p1 p2 p3 p4 p5 p6 p7 p8 : Prop} {w W : World} (h : p0 ∧ p1 ∧ p2 ∧ p3 ∧ p4 ∧ p5 ∧ p6 ∧ p7 ∧ p8 ∧ Below w.heap.size w W) : Below w.heap.size w W := h.2.2.2.2.2.2.2.2.2

theorem parts_any (ax ay bx b2 cx cy dx dy : Int) (w : World) (ha : mayB ax ay = true) (hb : mayB bx b2 = true) (hc : mayB cx cy = true) (hd : mayB dx dy = true) :
    Calls Try.prog 73 #[.agg #[.int .i64 ax, .int .i64 ay], .agg #[.int .i64 bx, .int .i64 b2], .agg #[.int .i64 cx, .int .i64 cy], .agg #[.int .i64 dx, .int .i64 dy]] w fun e w' => e = .returned (.bool (partB ax ay bx b2 cx cy dx dy)) ∧ Below w.heap.size w w' := by
  have t1 := turnI_bd ax ay bx b2 cx cy
  have t2 := turnI_bd ax ay bx b2 dx dy
  have t3 := mul_bd (x := turnI ax ay bx b2 cx cy) (y := turnI ax ay bx b2 dx dy) (by omega) (by omega) (by omega) (by omega)
  have t4 := IntWalk.i64_in (turnI ax ay bx b2 cx cy * turnI ax ay bx b2 dx dy) (by omega)
  clear t1 t2 t3
  have L := Lib.hid (laid4 w (.int .i64 ax) (.int .i64 ay) (.int .i64 bx) (.int .i64 b2) (.int .i64 cx) (.int .i64 cy) (.int .i64 dx) (.int .i64 dy) 28)
  go_enter Try.func73, Try.ntmps73
  go_wp2_with fail
  go_region_held3 (fun W => W.cell? ⟨w.heap.size, 0, none⟩ = some (.int .i64 ax) ∧ W.cell? ⟨w.heap.size, 1, none⟩ = some (.int .i64 ay) ∧ W.cell? ⟨w.heap.size + 1, 0, none⟩ = some (.int .i64 bx) ∧ W.cell? ⟨w.heap.size + 1, 1, none⟩ = some (.int .i64 b2) ∧ W.cell? ⟨w.heap.size + 1 + 1, 0, none⟩ = some (.int .i64 cx) ∧ W.cell? ⟨w.heap.size + 1 + 1, 1, none⟩ = some (.int .i64 cy) ∧ W.cell? ⟨w.heap.size + 1 + 1 + 1, 0, none⟩ = some (.int .i64 dx) ∧ W.cell? ⟨w.heap.size + 1 + 1 + 1, 1, none⟩ = some (.int .i64 dy) ∧ w.heap.size + 4 ≤ W.heap.size ∧ Below w.heap.size w W)
    (first | exact drew4 L.out | exact keep4 (by assumption) (by assumption))
    (first | (go_at_call 71; refine (turn_any _ _ _ _ _ _ _ (by assumption) (by assumption) (by assumption)).mono ?_; rintro e w1 ⟨rfl, hb1⟩))
  go_wp2_with fail
  go_ret
  exact ⟨rfl, last4 (by assumption)⟩

theorem touches_any (ax ay bx b2 cx cy dx dy : Int) (w : World) (ha : mayB ax ay = true) (hb : mayB bx b2 = true) (hc : mayB cx cy = true) (hd : mayB dx dy = true) :
    Calls Try.prog 74 #[.agg #[.int .i64 ax, .int .i64 ay], .agg #[.int .i64 bx, .int .i64 b2], .agg #[.int .i64 cx, .int .i64 cy], .agg #[.int .i64 dx, .int .i64 dy]] w fun e w' => e = .returned (.bool (touchB ax ay bx b2 cx cy dx dy)) ∧ Below w.heap.size w w' := by
  have L := laid4 w (.int .i64 ax) (.int .i64 ay) (.int .i64 bx) (.int .i64 b2) (.int .i64 cx) (.int .i64 cy) (.int .i64 dx) (.int .i64 dy) 28
  by_cases h1 : onB ax ay bx b2 cx cy = true
  · rw [show touchB ax ay bx b2 cx cy dx dy = true by unfold touchB; rw [h1]; rfl]
    go_enter Try.func74, Try.ntmps74
    go_wp2_with (go_at_call 68; refine (on_any _ _ _ _ _ _ _ (by assumption) (by assumption) (by assumption)).mono ?_; rintro e w1 ⟨rfl, hb1⟩; have K1 := keep4 hb1 (by assumption); clear hb1)
    go_ret
    exact ⟨rfl, last4 (by assumption)⟩
  have e1 : onB ax ay bx b2 cx cy = false := by simpa using h1
  clear h1
  by_cases h2 : onB ax ay bx b2 dx dy = true
  · rw [show touchB ax ay bx b2 cx cy dx dy = true by unfold touchB; rw [e1, h2]; rfl]
    go_enter Try.func74, Try.ntmps74
    go_wp2_with (go_at_call 68; refine (on_any _ _ _ _ _ _ _ (by assumption) (by assumption) (by assumption)).mono ?_; rintro e w1 ⟨rfl, hb1⟩; have K1 := keep4 hb1 (by assumption); clear hb1)
    go_ret
    exact ⟨rfl, last4 (by assumption)⟩
  have e2 : onB ax ay bx b2 dx dy = false := by simpa using h2
  clear h2
  by_cases h3 : onB cx cy dx dy ax ay = true
  · rw [show touchB ax ay bx b2 cx cy dx dy = true by unfold touchB; rw [e1, e2, h3]; rfl]
    go_enter Try.func74, Try.ntmps74
    go_wp2_with (go_at_call 68; refine (on_any _ _ _ _ _ _ _ (by assumption) (by assumption) (by assumption)).mono ?_; rintro e w1 ⟨rfl, hb1⟩; have K1 := keep4 hb1 (by assumption); clear hb1)
    go_ret
    exact ⟨rfl, last4 (by assumption)⟩
  have e3 : onB cx cy dx dy ax ay = false := by simpa using h3
  clear h3
  rw [show touchB ax ay bx b2 cx cy dx dy = onB cx cy dx dy bx b2 by unfold touchB; rw [e1, e2, e3]; rfl]
  go_enter Try.func74, Try.ntmps74
  go_wp2_with (go_at_call 68; refine (on_any _ _ _ _ _ _ _ (by assumption) (by assumption) (by assumption)).mono ?_; rintro e w1 ⟨rfl, hb1⟩; have K1 := keep4 hb1 (by assumption); clear hb1)
  go_ret
  exact ⟨rfl, last4 (by assumption)⟩

theorem cross_any (ax ay bx b2 cx cy dx dy : Int) (w : World) (ha : mayB ax ay = true) (hb : mayB bx b2 = true) (hc : mayB cx cy = true) (hd : mayB dx dy = true) :
    Calls Try.prog 70 #[.agg #[.int .i64 ax, .int .i64 ay], .agg #[.int .i64 bx, .int .i64 b2], .agg #[.int .i64 cx, .int .i64 cy], .agg #[.int .i64 dx, .int .i64 dy]] w fun e w' => e = .returned (.bool (crossB ax ay bx b2 cx cy dx dy)) ∧ Below w.heap.size w w' := by
  have L := laid4 w (.int .i64 ax) (.int .i64 ay) (.int .i64 bx) (.int .i64 b2) (.int .i64 cx) (.int .i64 cy) (.int .i64 dx) (.int .i64 dy) 28
  by_cases h1 : partB ax ay bx b2 cx cy dx dy = true
  · by_cases h2 : partB cx cy dx dy ax ay bx b2 = true
    · rw [show crossB ax ay bx b2 cx cy dx dy = true by unfold crossB; rw [h1, h2]; rfl]
      go_enter Try.func70, Try.ntmps70
      go_wp2_with (first | (go_at_call 73; refine (parts_any _ _ _ _ _ _ _ _ _ (by assumption) (by assumption) (by assumption) (by assumption)).mono ?_; rintro e w1 ⟨rfl, hb1⟩; have K1 := keep4 hb1 (by assumption); clear hb1) | (go_at_call 74; refine (touches_any _ _ _ _ _ _ _ _ _ (by assumption) (by assumption) (by assumption) (by assumption)).mono ?_; rintro e w1 ⟨rfl, hb1⟩; have K1 := keep4 hb1 (by assumption); clear hb1))
      go_ret
      exact ⟨rfl, last4 (by assumption)⟩
    · have e2 : partB cx cy dx dy ax ay bx b2 = false := by simpa using h2
      clear h2
      rw [show crossB ax ay bx b2 cx cy dx dy = touchB ax ay bx b2 cx cy dx dy by unfold crossB; rw [h1, e2]; rfl]
      go_enter Try.func70, Try.ntmps70
      go_wp2_with (first | (go_at_call 73; refine (parts_any _ _ _ _ _ _ _ _ _ (by assumption) (by assumption) (by assumption) (by assumption)).mono ?_; rintro e w1 ⟨rfl, hb1⟩; have K1 := keep4 hb1 (by assumption); clear hb1) | (go_at_call 74; refine (touches_any _ _ _ _ _ _ _ _ _ (by assumption) (by assumption) (by assumption) (by assumption)).mono ?_; rintro e w1 ⟨rfl, hb1⟩; have K1 := keep4 hb1 (by assumption); clear hb1))
      go_ret
      exact ⟨rfl, last4 (by assumption)⟩
  · have e1 : partB ax ay bx b2 cx cy dx dy = false := by simpa using h1
    clear h1
    rw [show crossB ax ay bx b2 cx cy dx dy = touchB ax ay bx b2 cx cy dx dy by unfold crossB; rw [e1]; rfl]
    go_enter Try.func70, Try.ntmps70
    go_wp2_with (first | (go_at_call 73; refine (parts_any _ _ _ _ _ _ _ _ _ (by assumption) (by assumption) (by assumption) (by assumption)).mono ?_; rintro e w1 ⟨rfl, hb1⟩; have K1 := keep4 hb1 (by assumption); clear hb1) | (go_at_call 74; refine (touches_any _ _ _ _ _ _ _ _ _ (by assumption) (by assumption) (by assumption) (by assumption)).mono ?_; rintro e w1 ⟨rfl, hb1⟩; have K1 := keep4 hb1 (by assumption); clear hb1))
    go_ret
    exact ⟨rfl, last4 (by assumption)⟩
end Go.Proofs.Ythakngphffoooaa.Pt
