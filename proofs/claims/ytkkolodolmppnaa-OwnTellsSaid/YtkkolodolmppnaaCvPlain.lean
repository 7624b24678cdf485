/-
  Covers of rectangles: columns and rows of what lies between others, boxes of blocks of cells, and lists of cells' numbers. Plain; no program here.
-/
import Derived.Test.YtkkolodolmppnaaMoCellP
import Derived.Test.YtkkolodolmppnaaRcPlain
import Derived.Test.YtkkolodolmppnaaMoPlain
namespace Go.Proofs.Ytkkolodolmppnaa.Cv
open Go.Proofs.Ytkkolodolmppnaa.Pt Go.Proofs.Ytkkolodolmppnaa.Rc Go.Proofs.Ytkkolodolmppnaa.Mo
set_option linter.unusedVariables false

theorem col_mono {k : Nat} {x y : Int} (h : x ≤ y) : colI k x ≤ colI k y := by
  unfold colI
  exact Int.ediv_le_ediv (two_pos k) (by omega)
theorem fir_mono {k : Nat} {c d : Int} (h : c ≤ d) : firI k c ≤ firI k d := by
  unfold firI
  have := Int.mul_le_mul_of_nonneg_right h (Int.le_of_lt (two_pos k))
  omega
theorem las_mono {k : Nat} {c d : Int} (h : c ≤ d) : lasI k c ≤ lasI k d := by
  unfold lasI
  have := fir_mono (k := k) h
  have := mn_cases (firI k c + 2 ^ k - 1) 1073741824
  have := mn_cases (firI k d + 2 ^ k - 1) 1073741824
  omega
theorem mn_le {a b : Int} (h : a ≤ b) : mn a b = a := by have := mn_cases a b; omega
theorem mx_le {a b : Int} (h : a ≤ b) : mx a b = b := by have := mx_cases a b; omega
theorem fir_le {k : Nat} {c n : Int} : firI k c ≤ n ↔ c ≤ colI k n := by
  unfold firI colI
  rw [Int.le_ediv_iff_mul_le (two_pos k)]
  constructor <;> intro h <;> omega
theorem le_las {k : Nat} {c n : Int} (hn : n ≤ 1073741824) : n ≤ lasI k c ↔ colI k n ≤ c := by
  have h1 : colI k n < c + 1 ↔ n + 1073741824 < (c + 1) * 2 ^ k := by unfold colI; exact Int.ediv_lt_iff_lt_mul (two_pos k)
  have h2 : (c + 1) * 2 ^ k = c * 2 ^ k + 2 ^ k := by rw [Int.add_mul, Int.one_mul]
  unfold lasI firI
  have := mn_cases (c * 2 ^ k - 1073741824 + 2 ^ k - 1) 1073741824
  omega
theorem col_fir {k : Nat} (c : Int) : colI k (firI k c) = c := by
  unfold colI firI
  rw [Int.sub_add_cancel]
  exact Int.mul_ediv_cancel _ (Int.ne_of_gt (two_pos k))
theorem las_le (k : Nat) (c : Int) : lasI k c ≤ 1073741824 := by unfold lasI; have := mn_cases (firI k c + 2 ^ k - 1) 1073741824; omega
theorem col_las {k : Nat} {n : Int} (hn : n ≤ 1073741824) : colI k (lasI k (colI k n)) = colI k n := by
  have h1 := (le_las (k := k) (c := colI k n) (n := lasI k (colI k n)) (las_le k _)).1 (Int.le_refl _)
  have h2 : n ≤ lasI k (colI k n) := (le_las hn).2 (Int.le_refl _)
  have := col_mono (k := k) h2
  omega
theorem fir_bd {k : Nat} {n : Int} (hn : -1073741824 ≤ n) : -1073741824 ≤ firI k (colI k n) := by
  unfold firI
  have := Int.mul_nonneg (colI_nonneg (s := k) hn) (Int.le_of_lt (two_pos k))
  omega
theorem fir_self {k : Nat} (n : Int) : firI k (colI k n) ≤ n := fir_le.2 (Int.le_refl _)
theorem las_self {k : Nat} {n : Int} (hn : n ≤ 1073741824) : n ≤ lasI k (colI k n) := (le_las hn).2 (Int.le_refl _)

/-- The box of a cover may be, and holds its rectangle. -/
theorem box_may {k : Nat} {x1 y1 x2 y2 : Int} (h : rmayB x1 y1 x2 y2 = true) : rmayB (firI k (colI k x1)) (firI k (colI k y1)) (lasI k (colI k x2)) (lasI k (colI k y2)) = true := by
  obtain ⟨a, b, c, d, e, f⟩ := rmayB_bd h
  have h1 := fir_self (k := k) x1
  have h2 := fir_self (k := k) y1
  have h3 := las_self (k := k) c
  have h4 := las_self (k := k) f
  exact rmayB_mk ⟨fir_bd a, by omega, las_le _ _, fir_bd d, by omega, las_le _ _⟩
theorem box_holds {k : Nat} {x1 y1 x2 y2 : Int} (h : rmayB x1 y1 x2 y2 = true) : holdsB (firI k (colI k x1)) (firI k (colI k y1)) (lasI k (colI k x2)) (lasI k (colI k y2)) x1 y1 x2 y2 = true := by
  obtain ⟨a, b, c, d, e, f⟩ := rmayB_bd h
  have h1 := fir_self (k := k) x1
  have h2 := fir_self (k := k) y1
  have h3 := las_self (k := k) c
  have h4 := las_self (k := k) f
  exact holdsB_iff.2 ⟨inB_iff.2 ⟨h1, by omega, h2, by omega⟩, inB_iff.2 ⟨by omega, h3, by omega, h4⟩⟩
/-- A point that may be lies in it just where its cell is among the block's. -/
theorem in_boxB {k : Nat} {x1 y1 x2 y2 px py : Int} (hp : mayB px py = true) : inB (firI k (colI k x1)) (firI k (colI k y1)) (lasI k (colI k x2)) (lasI k (colI k y2)) px py = true ↔
    colI k x1 ≤ colI k px ∧ colI k px ≤ colI k x2 ∧ colI k y1 ≤ colI k py ∧ colI k py ≤ colI k y2 := by
  obtain ⟨⟨_, a⟩, ⟨_, b⟩⟩ := (⟨inR_iff.1 (mayB_iff.1 hp).1, inR_iff.1 (mayB_iff.1 hp).2⟩ : (_ ∧ _) ∧ (_ ∧ _))
  rw [inB_iff, fir_le, fir_le, le_las a, le_las b]
theorem in_both {k : Nat} {x1 y1 x2 y2 px py : Int} (h : rmayB x1 y1 x2 y2 = true) (hi : inB x1 y1 x2 y2 px py = true) : mayB px py = true ∧ inB (firI k (colI k x1)) (firI k (colI k y1)) (lasI k (colI k x2)) (lasI k (colI k y2)) px py = true := by
  obtain ⟨a, b, c, d, e, f⟩ := rmayB_bd h
  obtain ⟨i1, i2, i3, i4⟩ := inB_iff.1 hi
  have hm : mayB px py = true := mayB_iff.2 ⟨inR_iff.2 ⟨by omega, by omega⟩, inR_iff.2 ⟨by omega, by omega⟩⟩
  exact ⟨hm, (in_boxB hm).2 ⟨col_mono i1, col_mono i2, col_mono i3, col_mono i4⟩⟩

/-- ps are the numbers of the cells of the rows (or columns) from a1 on, below a, and of those of row a from b1 on, below b; b1 to b2 in each. -/
def Coll (f : Nat → Nat → Int) (a1 b1 b2 a b : Nat) (ps : List Int) : Prop :=
  ps.Nodup ∧ (∀ x, x ∈ ps ↔ ∃ i j, a1 ≤ i ∧ b1 ≤ j ∧ j ≤ b2 ∧ (i < a ∨ i = a ∧ j < b) ∧ x = f i j) ∧ ps.length = (a - a1) * (b2 + 1 - b1) + (b - b1)
theorem Coll.start (f : Nat → Nat → Int) (a1 b1 b2 : Nat) : Coll f a1 b1 b2 a1 b1 [] := by
  refine ⟨List.nodup_nil, fun x => ⟨fun h => by simp at h, fun ⟨i, j, h1, h2, h3, h4, _⟩ => by omega⟩, by simp⟩
theorem Coll.next {f : Nat → Nat → Int} {a1 b1 b2 a b : Nat} {ps : List Int} (h : Coll f a1 b1 b2 a b ps) (ha : a1 ≤ a) (hb : b1 ≤ b) (hb2 : b ≤ b2)
    (hf : ∀ i j, i ≤ a → j ≤ b2 → f i j = f a b → i = a ∧ j = b) : Coll f a1 b1 b2 a (b + 1) (ps ++ [f a b]) := by
  refine ⟨?_, fun x => ?_, ?_⟩
  · rw [List.nodup_append]
    refine ⟨h.1, by simp, fun x hx y hy e => ?_⟩
    simp at hy
    subst hy
    subst e
    obtain ⟨i, j, h1, h2, h3, h4, h5⟩ := (h.2.1 _).1 hx
    have := hf i j (by omega) h3 h5.symm
    omega
  · rw [List.mem_append, h.2.1]
    constructor
    · rintro (⟨i, j, h1, h2, h3, h4, h5⟩ | hx)
      · exact ⟨i, j, h1, h2, h3, by omega, h5⟩
      · simp at hx
        exact ⟨a, b, ha, hb, hb2, by omega, hx⟩
    · rintro ⟨i, j, h1, h2, h3, h4, h5⟩
      by_cases e : i = a ∧ j = b
      · obtain ⟨rfl, rfl⟩ := e
        exact Or.inr (by simp [h5])
      · exact Or.inl ⟨i, j, h1, h2, h3, by omega, h5⟩
  · rw [List.length_append, h.2.2]
    simp
    omega
theorem Coll.row {f : Nat → Nat → Int} {a1 b1 b2 a : Nat} {ps : List Int} (h : Coll f a1 b1 b2 a (b2 + 1) ps) (ha : a1 ≤ a) (hb : b1 ≤ b2 + 1) : Coll f a1 b1 b2 (a + 1) b1 ps := by
  refine ⟨h.1, fun x => ?_, ?_⟩
  · rw [h.2.1]
    constructor
    · rintro ⟨i, j, h1, h2, h3, h4, h5⟩; exact ⟨i, j, h1, h2, h3, by omega, h5⟩
    · rintro ⟨i, j, h1, h2, h3, h4, h5⟩; exact ⟨i, j, h1, h2, h3, by omega, h5⟩
  · rw [h.2.2, show a + 1 - a1 = (a - a1) + 1 by omega, Nat.succ_mul]
    omega
/-- All of a block. -/
def Cells (f : Nat → Nat → Int) (a1 b1 a2 b2 : Nat) (ps : List Int) : Prop := ps.Nodup ∧ (∀ x, x ∈ ps ↔ ∃ i j, a1 ≤ i ∧ i ≤ a2 ∧ b1 ≤ j ∧ j ≤ b2 ∧ x = f i j) ∧ ps.length = (a2 + 1 - a1) * (b2 + 1 - b1)
theorem Coll.all {f : Nat → Nat → Int} {a1 b1 a2 b2 : Nat} {ps : List Int} (h : Coll f a1 b1 b2 (a2 + 1) b1 ps) : Cells f a1 b1 a2 b2 ps := by
  refine ⟨h.1, fun x => ?_, ?_⟩
  · rw [h.2.1]
    constructor
    · rintro ⟨i, j, h1, h2, h3, h4, h5⟩; exact ⟨i, j, h1, by omega, h2, h3, h5⟩
    · rintro ⟨i, j, h1, h2, h3, h4, h5⟩; exact ⟨i, j, h1, h3, h4, by omega, h5⟩
  · rw [h.2.2]; omega
theorem Coll.small {f : Nat → Nat → Int} {a1 b1 b2 a b : Nat} {ps : List Int} (h : Coll f a1 b1 b2 a b ps) (ha : a ≤ 200) (hb : b ≤ b2 + 1) (hb2 : b2 ≤ 199) : ps.length ≤ 1048000 := by
  rw [h.2.2]
  have : (a - a1) * (b2 + 1 - b1) ≤ 200 * 200 := Nat.mul_le_mul (by omega) (by omega)
  omega
end Go.Proofs.Ytkkolodolmppnaa.Cv
