/-
  Contract of the document's answer Cover: the box of a cover, for a rectangle that may be. Memory that was there is left as it was.
-/
import Derived.Test.YthakngphffoooaaProg
import Derived.Test.YthakngphffoooaaMt10
import Derived.WalkSpells
import Derived.RowKit3
import Derived.Lib.Hide
import Derived.Deep.QuietTactic
import Derived.BigQuiet
import Derived.Laws.Slices
import Derived.Test.YthakngphffoooaaMt03
import Derived.WalkKit
import Derived.Below
import Derived.Laws.Bits64b
import Derived.Test.YthakngphffoooaaMt04
import Derived.Test.YthakngphffoooaaMt09
import Derived.Test.YthakngphffoooaaMt06
import Derived.Deep.RegionHeld3
import Derived.IntWalk
/-
  Contract of the document's answer Sorted: the same numbers, rising.
-/
namespace Go.Proofs.Ythakngphffoooaa.Cv
open Go.RowKit Go.Proofs.Ythakngphffoooaa.So
set_option linter.unusedVariables false

set_option linter.unusedSimpArgs false
theorem rd_take {W : World} {b o cap z : Nat} {xs : List Int} (hb : b < z) (hz : z ≤ W.heap.size) (hc : xs.length ≤ cap) (hx : ∀ t (h : t < xs.length), W.cell? ⟨b, o + t, none⟩ = some (.int .u64 xs[t])) (h : Nat) (hh : h ≤ xs.length) :
    Rd W z (.slice (some ⟨b, o, none⟩) h cap) (xs.take h) := by
  have hl : (xs.take h).length = h := by simp; omega
  refine ⟨b, o, cap, by rw [hl], hb, hz, by omega, fun t ht => ?_⟩
  rw [List.getElem_take]
  exact hx t (by omega)
theorem rd_drop {W : World} {b o cap z : Nat} {xs : List Int} (hb : b < z) (hz : z ≤ W.heap.size) (hc : xs.length ≤ cap) (hx : ∀ t (h : t < xs.length), W.cell? ⟨b, o + t, none⟩ = some (.int .u64 xs[t])) (h : Nat) (hh : h ≤ xs.length) :
    Rd W z (.slice (some ⟨b, o + h, none⟩) (xs.length - h) (cap - h)) (xs.drop h) := by
  have hl : (xs.drop h).length = xs.length - h := by simp
  refine ⟨b, o + h, cap - h, by rw [hl], hb, hz, by omega, fun t ht => ?_⟩
  rw [List.getElem_drop, Nat.add_assoc]
  exact hx (h + t) (by omega)

theorem info_cut {P : Program} {t : TypeId} {z : Value} {s b : Nat} (h : (P.info? t).map (fun i => (i.zero, i.size, i.bytes)) = some (some z, s, b)) : ∃ i, P.info? t = some i ∧ i.zero = some z ∧ i.size = s ∧ i.bytes = b := by
  cases e : P.info? t with
  | none => rw [e] at h; simp at h
  | some i => rw [e] at h; simp at h; exact ⟨i, rfl, h.1, h.2.1, h.2.2⟩
def lenOf : Value → Nat | .slice _ n _ => n | _ => 0
/-- Two rising lists, of which the heads are put behind what has been put together so far. -/
def MgR (w2 : World) (t : TypeId) (l0 : List Int) (va vb vo : Value) (wr : World) : Prop :=
  ∃ la lb os : List Int, Rd w2 w2.heap.size va la ∧ Rd w2 w2.heap.size vb lb ∧ wr.ownsRow w2.heap.size t 1 vo os.length (u64s os) ∧ Below w2.heap.size w2 wr ∧ (os ++ (la ++ lb)).Perm l0 ∧ Up la ∧ Up lb ∧ Up os ∧ ∀ x ∈ os, ∀ y ∈ la ++ lb, x ≤ y
theorem up_snoc {os : List Int} {x : Int} (h : Up os) (hx : ∀ y ∈ os, y ≤ x) : Up (os ++ [x]) := List.pairwise_append.2 ⟨h, by simp, fun a ha b hb => by simp at hb; subst hb; exact hx a ha⟩
theorem up_app {os l : List Int} (h : Up os) (hl : Up l) (hx : ∀ x ∈ os, ∀ y ∈ l, x ≤ y) : Up (os ++ l) := List.pairwise_append.2 ⟨h, hl, hx⟩
theorem up_head {x : Int} {l : List Int} (h : Up (x :: l)) : ∀ y ∈ l, x ≤ y := (List.pairwise_cons.1 h).1
theorem up_tail {x : Int} {l : List Int} (h : Up (x :: l)) : Up l := (List.pairwise_cons.1 h).2
theorem own_as {W : World} {base n : Nat} {t : TypeId} {v : Value} {ys : List Value} {xs : List Int} (h : W.ownsRow base t 1 v n ys) (e : ys = u64s xs) : W.ownsRow base t 1 v xs.length (u64s xs) := by
  subst e
  have h1 : n = xs.length := by have := h.1; simp [u64s] at this; omega
  rw [← h1]
  exact h
theorem rd_len {W : World} {z : Nat} {v : Value} {xs : List Int} (h : Rd W z v xs) : lenOf v = xs.length := by obtain ⟨_, _, _, rfl, _⟩ := h; rfl
/-- The head goes from the left one. -/
theorem mg_left {os la lb l0 : List Int} {x y : Int} (hp : (os ++ ((x :: la) ++ (y :: lb))).Perm l0) (h1 : Up (x :: la)) (h2 : Up (y :: lb)) (h3 : Up os) (h4 : ∀ a ∈ os, ∀ b ∈ (x :: la) ++ (y :: lb), a ≤ b) (hxy : x ≤ y) :
    ((os ++ [x]) ++ (la ++ (y :: lb))).Perm l0 ∧ Up la ∧ Up (os ++ [x]) ∧ ∀ a ∈ os ++ [x], ∀ b ∈ la ++ (y :: lb), a ≤ b := by
  refine ⟨by simpa using hp, up_tail h1, up_snoc h3 fun a ha => h4 a ha x (by simp), fun a ha b hb => ?_⟩
  rcases List.mem_append.1 ha with ha | ha
  · exact h4 a ha b (by rw [List.cons_append]; exact List.mem_cons_of_mem _ hb)
  · simp at ha
    subst ha
    rcases List.mem_append.1 hb with hb | hb
    · exact up_head h1 b hb
    · rcases List.mem_cons.1 hb with hb | hb
      · omega
      · have := up_head h2 b hb; omega
theorem mg_right {os la lb l0 : List Int} {x y : Int} (hp : (os ++ ((x :: la) ++ (y :: lb))).Perm l0) (h1 : Up (x :: la)) (h2 : Up (y :: lb)) (h3 : Up os) (h4 : ∀ a ∈ os, ∀ b ∈ (x :: la) ++ (y :: lb), a ≤ b) (hxy : ¬ x ≤ y) :
    ((os ++ [y]) ++ ((x :: la) ++ lb)).Perm l0 ∧ Up lb ∧ Up (os ++ [y]) ∧ ∀ a ∈ os ++ [y], ∀ b ∈ (x :: la) ++ lb, a ≤ b := by
  refine ⟨List.Perm.trans ?_ hp, up_tail h2, up_snoc h3 fun a ha => h4 a ha y (by simp), fun a ha b hb => ?_⟩
  · rw [List.append_assoc]
    refine List.Perm.append_left os ?_
    exact (List.perm_middle (l₁ := x :: la) (a := y) (l₂ := lb)).symm
  · rcases List.mem_append.1 ha with ha | ha
    · refine h4 a ha b ?_
      rcases List.mem_append.1 hb with hb | hb
      · exact List.mem_append_left _ hb
      · exact List.mem_append_right _ (List.mem_cons_of_mem _ hb)
    · simp at ha
      subst ha
      rcases List.mem_append.1 hb with hb | hb
      · rcases List.mem_cons.1 hb with hb | hb
        · omega
        · have := up_head h1 b hb; omega
      · exact up_head h2 b hb
theorem rd_tail {W : World} {z b o cap : Nat} {x : Int} {l : List Int} (h : Rd W z (.slice (some ⟨b, o, none⟩) (l.length + 1) cap) (x :: l)) :
    Rd W z (.slice (if cap = 1 then some ⟨b, o, none⟩ else some ⟨b, o + 1, none⟩) l.length (cap - 1)) l := by
  obtain ⟨b', o', cap', e, hb, hz, hc, hx⟩ := h
  simp at e
  obtain ⟨⟨rfl, rfl⟩, rfl⟩ := e
  split
  · rename_i h1
    have h0 : l.length = 0 := by simp at hc; omega
    exact ⟨b, o, cap - 1, rfl, hb, hz, by omega, fun t ht => absurd ht (by omega)⟩
  · have := rd_drop hb hz hc hx 1 (by simp)
    simpa using this

end Go.Proofs.Ythakngphffoooaa.Cv
/-
  Plain facts: bits that are spread and gathered by masks are those of a cell's number. No program here.
-/
namespace Go.Proofs.Ythakngphffoooaa.Mo

theorem bit_high {n k i : Nat} (h : n < 2 ^ k) (hi : k ≤ i) : n.testBit i = false := Nat.testBit_lt_two_pow (Nat.lt_of_lt_of_le h (Nat.pow_le_pow_right (by decide) hi))
/-- A step that spreads, and one that gathers. -/
def upN (g m b : Nat) : Nat := (b ||| b * 2 ^ g % 2 ^ 64) &&& m
def downN (g m b : Nat) : Nat := (b ||| b / 2 ^ g) &&& m
theorem upN_bit (g m b i : Nat) : (upN g m b).testBit i = ((b.testBit i || (decide (i < 64) && (decide (g ≤ i) && b.testBit (i - g)))) && m.testBit i) := by
  unfold upN
  rw [Nat.testBit_and, Nat.testBit_or, Nat.testBit_mod_two_pow, Nat.testBit_mul_two_pow]
theorem downN_bit (g m b i : Nat) : (downN g m b).testBit i = ((b.testBit i || b.testBit (g + i)) && m.testBit i) := by
  unfold downN
  rw [Nat.testBit_and, Nat.testBit_or, Nat.testBit_div_two_pow, Nat.add_comm]

theorem mask16 (i : Nat) : Nat.testBit 281470681808895 i = (decide (i < 64) && decide (i % 32 < 16)) := by
  by_cases h : i < 64
  · have : ∀ i, i < 64 → Nat.testBit 281470681808895 i = decide (i % 32 < 16) := by decide
    rw [this i h, decide_eq_true h, Bool.true_and]
  · rw [decide_eq_false h, Bool.false_and]
    exact bit_high (k := 64) (by decide) (by omega)

theorem mask8 (i : Nat) : Nat.testBit 71777214294589695 i = (decide (i < 64) && decide (i % 16 < 8)) := by
  by_cases h : i < 64
  · have : ∀ i, i < 64 → Nat.testBit 71777214294589695 i = decide (i % 16 < 8) := by decide
    rw [this i h, decide_eq_true h, Bool.true_and]
  · rw [decide_eq_false h, Bool.false_and]
    exact bit_high (k := 64) (by decide) (by omega)

theorem mask4 (i : Nat) : Nat.testBit 1085102592571150095 i = (decide (i < 64) && decide (i % 8 < 4)) := by
  by_cases h : i < 64
  · have : ∀ i, i < 64 → Nat.testBit 1085102592571150095 i = decide (i % 8 < 4) := by decide
    rw [this i h, decide_eq_true h, Bool.true_and]
  · rw [decide_eq_false h, Bool.false_and]
    exact bit_high (k := 64) (by decide) (by omega)

theorem mask2 (i : Nat) : Nat.testBit 3689348814741910323 i = (decide (i < 64) && decide (i % 4 < 2)) := by
  by_cases h : i < 64
  · have : ∀ i, i < 64 → Nat.testBit 3689348814741910323 i = decide (i % 4 < 2) := by decide
    rw [this i h, decide_eq_true h, Bool.true_and]
  · rw [decide_eq_false h, Bool.false_and]
    exact bit_high (k := 64) (by decide) (by omega)

theorem mask1 (i : Nat) : Nat.testBit 6148914691236517205 i = (decide (i < 64) && decide (i % 2 < 1)) := by
  by_cases h : i < 64
  · have : ∀ i, i < 64 → Nat.testBit 6148914691236517205 i = decide (i % 2 < 1) := by decide
    rw [this i h, decide_eq_true h, Bool.true_and]
  · rw [decide_eq_false h, Bool.false_and]
    exact bit_high (k := 64) (by decide) (by omega)

theorem up16 {f : Nat → Bool} {b : Nat} (h : ∀ i, b.testBit i = (decide (i < 64) && decide (i % 64 < 32) && f (i / 64 * 32 + i % 64))) :
    ∀ i, (upN 16 281470681808895 b).testBit i = (decide (i < 64) && decide (i % 32 < 16) && f (i / 32 * 16 + i % 32)) := by
  intro i
  rw [upN_bit, mask16, h i, h (i - 16)]
  by_cases h1 : i < 64
  · by_cases h2 : i % 32 < 16
    · by_cases h3 : i % 64 < 32
      · rw [show i / 32 * 16 + i % 32 = i / 64 * 32 + i % 64 by omega]
        by_cases h4 : 16 ≤ i
        · have h5 : ¬ (i - 16) % 64 < 32 := by omega
          simp [h1, h2, h3, h5]
        · simp [h1, h2, h3, h4]
      · have h4 : 16 ≤ i := by omega
        have h5 : (i - 16) % 64 < 32 := by omega
        have h6 : i - 16 < 64 := by omega
        rw [show (i - 16) / 64 * 32 + (i - 16) % 64 = i / 32 * 16 + i % 32 by omega]
        simp [h1, h2, h3, h4, h5, h6]
    · simp [h2]
  · simp [h1]
theorem down32 {f : Nat → Bool} {b : Nat} (h : ∀ i, b.testBit i = (decide (i < 64) && decide (i % 32 < 16) && f (i / 32 * 16 + i % 32))) {m : Nat}
    (hm : ∀ i, m.testBit i = (decide (i < 64) && decide (i % 64 < 32))) :
    ∀ i, (downN 16 m b).testBit i = (decide (i < 64) && decide (i % 64 < 32) && f (i / 64 * 32 + i % 64)) := by
  intro i
  rw [downN_bit, hm, h i, h (16 + i)]
  by_cases h1 : i < 64
  · by_cases h2 : i % 64 < 32
    · by_cases h3 : i % 64 < 16
      · rw [show i / 32 * 16 + i % 32 = i / 64 * 32 + i % 64 by omega]
        have h4 : i % 32 < 16 := by omega
        have h5 : ¬ (16 + i) % 32 < 16 := by omega
        simp [h1, h2, h4, h5]
      · rw [show (16 + i) / 32 * 16 + (16 + i) % 32 = i / 64 * 32 + i % 64 by omega]
        have h4 : ¬ i % 32 < 16 := by omega
        have h5 : (16 + i) % 32 < 16 := by omega
        have h6 : 16 + i < 64 := by omega
        simp [h1, h2, h4, h5, h6]
    · simp [h2]
  · simp [h1]

theorem up8 {f : Nat → Bool} {b : Nat} (h : ∀ i, b.testBit i = (decide (i < 64) && decide (i % 32 < 16) && f (i / 32 * 16 + i % 32))) :
    ∀ i, (upN 8 71777214294589695 b).testBit i = (decide (i < 64) && decide (i % 16 < 8) && f (i / 16 * 8 + i % 16)) := by
  intro i
  rw [upN_bit, mask8, h i, h (i - 8)]
  by_cases h1 : i < 64
  · by_cases h2 : i % 16 < 8
    · by_cases h3 : i % 32 < 16
      · rw [show i / 16 * 8 + i % 16 = i / 32 * 16 + i % 32 by omega]
        by_cases h4 : 8 ≤ i
        · have h5 : ¬ (i - 8) % 32 < 16 := by omega
          simp [h1, h2, h3, h5]
        · simp [h1, h2, h3, h4]
      · have h4 : 8 ≤ i := by omega
        have h5 : (i - 8) % 32 < 16 := by omega
        have h6 : i - 8 < 64 := by omega
        rw [show (i - 8) / 32 * 16 + (i - 8) % 32 = i / 16 * 8 + i % 16 by omega]
        simp [h1, h2, h3, h4, h5, h6]
    · simp [h2]
  · simp [h1]
theorem down16 {f : Nat → Bool} {b : Nat} (h : ∀ i, b.testBit i = (decide (i < 64) && decide (i % 16 < 8) && f (i / 16 * 8 + i % 16))) {m : Nat}
    (hm : ∀ i, m.testBit i = (decide (i < 64) && decide (i % 32 < 16))) :
    ∀ i, (downN 8 m b).testBit i = (decide (i < 64) && decide (i % 32 < 16) && f (i / 32 * 16 + i % 32)) := by
  intro i
  rw [downN_bit, hm, h i, h (8 + i)]
  by_cases h1 : i < 64
  · by_cases h2 : i % 32 < 16
    · by_cases h3 : i % 32 < 8
      · rw [show i / 16 * 8 + i % 16 = i / 32 * 16 + i % 32 by omega]
        have h4 : i % 16 < 8 := by omega
        have h5 : ¬ (8 + i) % 16 < 8 := by omega
        simp [h1, h2, h4, h5]
      · rw [show (8 + i) / 16 * 8 + (8 + i) % 16 = i / 32 * 16 + i % 32 by omega]
        have h4 : ¬ i % 16 < 8 := by omega
        have h5 : (8 + i) % 16 < 8 := by omega
        have h6 : 8 + i < 64 := by omega
        simp [h1, h2, h4, h5, h6]
    · simp [h2]
  · simp [h1]

theorem up4 {f : Nat → Bool} {b : Nat} (h : ∀ i, b.testBit i = (decide (i < 64) && decide (i % 16 < 8) && f (i / 16 * 8 + i % 16))) :
    ∀ i, (upN 4 1085102592571150095 b).testBit i = (decide (i < 64) && decide (i % 8 < 4) && f (i / 8 * 4 + i % 8)) := by
  intro i
  rw [upN_bit, mask4, h i, h (i - 4)]
  by_cases h1 : i < 64
  · by_cases h2 : i % 8 < 4
    · by_cases h3 : i % 16 < 8
      · rw [show i / 8 * 4 + i % 8 = i / 16 * 8 + i % 16 by omega]
        by_cases h4 : 4 ≤ i
        · have h5 : ¬ (i - 4) % 16 < 8 := by omega
          simp [h1, h2, h3, h5]
        · simp [h1, h2, h3, h4]
      · have h4 : 4 ≤ i := by omega
        have h5 : (i - 4) % 16 < 8 := by omega
        have h6 : i - 4 < 64 := by omega
        rw [show (i - 4) / 16 * 8 + (i - 4) % 16 = i / 8 * 4 + i % 8 by omega]
        simp [h1, h2, h3, h4, h5, h6]
    · simp [h2]
  · simp [h1]
theorem down8 {f : Nat → Bool} {b : Nat} (h : ∀ i, b.testBit i = (decide (i < 64) && decide (i % 8 < 4) && f (i / 8 * 4 + i % 8))) {m : Nat}
    (hm : ∀ i, m.testBit i = (decide (i < 64) && decide (i % 16 < 8))) :
    ∀ i, (downN 4 m b).testBit i = (decide (i < 64) && decide (i % 16 < 8) && f (i / 16 * 8 + i % 16)) := by
  intro i
  rw [downN_bit, hm, h i, h (4 + i)]
  by_cases h1 : i < 64
  · by_cases h2 : i % 16 < 8
    · by_cases h3 : i % 16 < 4
      · rw [show i / 8 * 4 + i % 8 = i / 16 * 8 + i % 16 by omega]
        have h4 : i % 8 < 4 := by omega
        have h5 : ¬ (4 + i) % 8 < 4 := by omega
        simp [h1, h2, h4, h5]
      · rw [show (4 + i) / 8 * 4 + (4 + i) % 8 = i / 16 * 8 + i % 16 by omega]
        have h4 : ¬ i % 8 < 4 := by omega
        have h5 : (4 + i) % 8 < 4 := by omega
        have h6 : 4 + i < 64 := by omega
        simp [h1, h2, h4, h5, h6]
    · simp [h2]
  · simp [h1]

theorem up2 {f : Nat → Bool} {b : Nat} (h : ∀ i, b.testBit i = (decide (i < 64) && decide (i % 8 < 4) && f (i / 8 * 4 + i % 8))) :
    ∀ i, (upN 2 3689348814741910323 b).testBit i = (decide (i < 64) && decide (i % 4 < 2) && f (i / 4 * 2 + i % 4)) := by
  intro i
  rw [upN_bit, mask2, h i, h (i - 2)]
  by_cases h1 : i < 64
  · by_cases h2 : i % 4 < 2
    · by_cases h3 : i % 8 < 4
      · rw [show i / 4 * 2 + i % 4 = i / 8 * 4 + i % 8 by omega]
        by_cases h4 : 2 ≤ i
        · have h5 : ¬ (i - 2) % 8 < 4 := by omega
          simp [h1, h2, h3, h5]
        · simp [h1, h2, h3, h4]
      · have h4 : 2 ≤ i := by omega
        have h5 : (i - 2) % 8 < 4 := by omega
        have h6 : i - 2 < 64 := by omega
        rw [show (i - 2) / 8 * 4 + (i - 2) % 8 = i / 4 * 2 + i % 4 by omega]
        simp [h1, h2, h3, h4, h5, h6]
    · simp [h2]
  · simp [h1]
theorem down4 {f : Nat → Bool} {b : Nat} (h : ∀ i, b.testBit i = (decide (i < 64) && decide (i % 4 < 2) && f (i / 4 * 2 + i % 4))) {m : Nat}
    (hm : ∀ i, m.testBit i = (decide (i < 64) && decide (i % 8 < 4))) :
    ∀ i, (downN 2 m b).testBit i = (decide (i < 64) && decide (i % 8 < 4) && f (i / 8 * 4 + i % 8)) := by
  intro i
  rw [downN_bit, hm, h i, h (2 + i)]
  by_cases h1 : i < 64
  · by_cases h2 : i % 8 < 4
    · by_cases h3 : i % 8 < 2
      · rw [show i / 4 * 2 + i % 4 = i / 8 * 4 + i % 8 by omega]
        have h4 : i % 4 < 2 := by omega
        have h5 : ¬ (2 + i) % 4 < 2 := by omega
        simp [h1, h2, h4, h5]
      · rw [show (2 + i) / 4 * 2 + (2 + i) % 4 = i / 8 * 4 + i % 8 by omega]
        have h4 : ¬ i % 4 < 2 := by omega
        have h5 : (2 + i) % 4 < 2 := by omega
        have h6 : 2 + i < 64 := by omega
        simp [h1, h2, h4, h5, h6]
    · simp [h2]
  · simp [h1]

theorem up1 {f : Nat → Bool} {b : Nat} (h : ∀ i, b.testBit i = (decide (i < 64) && decide (i % 4 < 2) && f (i / 4 * 2 + i % 4))) :
    ∀ i, (upN 1 6148914691236517205 b).testBit i = (decide (i < 64) && decide (i % 2 < 1) && f (i / 2 * 1 + i % 2)) := by
  intro i
  rw [upN_bit, mask1, h i, h (i - 1)]
  by_cases h1 : i < 64
  · by_cases h2 : i % 2 < 1
    · by_cases h3 : i % 4 < 2
      · rw [show i / 2 * 1 + i % 2 = i / 4 * 2 + i % 4 by omega]
        by_cases h4 : 1 ≤ i
        · have h5 : ¬ (i - 1) % 4 < 2 := by omega
          simp [h1, h2, h3, h5]
        · simp [h1, h2, h3, h4]
      · have h4 : 1 ≤ i := by omega
        have h5 : (i - 1) % 4 < 2 := by omega
        have h6 : i - 1 < 64 := by omega
        rw [show (i - 1) / 4 * 2 + (i - 1) % 4 = i / 2 * 1 + i % 2 by omega]
        simp [h1, h2, h3, h4, h5, h6]
    · simp [h2]
  · simp [h1]
theorem down2 {f : Nat → Bool} {b : Nat} (h : ∀ i, b.testBit i = (decide (i < 64) && decide (i % 2 < 1) && f (i / 2 * 1 + i % 2))) {m : Nat}
    (hm : ∀ i, m.testBit i = (decide (i < 64) && decide (i % 4 < 2))) :
    ∀ i, (downN 1 m b).testBit i = (decide (i < 64) && decide (i % 4 < 2) && f (i / 4 * 2 + i % 4)) := by
  intro i
  rw [downN_bit, hm, h i, h (1 + i)]
  by_cases h1 : i < 64
  · by_cases h2 : i % 4 < 2
    · by_cases h3 : i % 4 < 1
      · rw [show i / 2 * 1 + i % 2 = i / 4 * 2 + i % 4 by omega]
        have h4 : i % 2 < 1 := by omega
        have h5 : ¬ (1 + i) % 2 < 1 := by omega
        simp [h1, h2, h4, h5]
      · rw [show (1 + i) / 2 * 1 + (1 + i) % 2 = i / 4 * 2 + i % 4 by omega]
        have h4 : ¬ i % 2 < 1 := by omega
        have h5 : (1 + i) % 2 < 1 := by omega
        have h6 : 1 + i < 64 := by omega
        simp [h1, h2, h4, h5, h6]
    · simp [h2]
  · simp [h1]

/-- The code's spread and gather. -/
def spreadN (n : Nat) : Nat := upN 1 6148914691236517205 (upN 2 3689348814741910323 (upN 4 1085102592571150095 (upN 8 71777214294589695 (upN 16 281470681808895 n))))
def gatherN (c : Nat) : Nat := downN 16 2147483647 (downN 8 281470681808895 (downN 4 71777214294589695 (downN 2 1085102592571150095 (downN 1 3689348814741910323 (c &&& 6148914691236517205)))))
theorem spreadN_bit {n : Nat} (h : n < 2 ^ 32) (i : Nat) : (spreadN n).testBit i = (decide (i < 64) && decide (i % 2 < 1) && n.testBit (i / 2)) := by
  have h0 : ∀ i, n.testBit i = (decide (i < 64) && decide (i % 64 < 32) && n.testBit (i / 64 * 32 + i % 64)) := by
    intro i
    by_cases h1 : i < 32
    · rw [show i / 64 * 32 + i % 64 = i by omega, decide_eq_true (show i < 64 by omega), decide_eq_true (show i % 64 < 32 by omega)]; rfl
    · rw [bit_high h (by omega)]
      by_cases h2 : i < 64
      · rw [decide_eq_false (show ¬ i % 64 < 32 by omega)]; simp
      · simp [h2]
  have h5 := up1 (up2 (up4 (up8 (up16 h0)))) i
  unfold spreadN
  rw [h5]
  by_cases h6 : i % 2 < 1
  · rw [show i / 2 * 1 + i % 2 = i / 2 by omega]
  · simp [h6]
theorem gatherN_bit (c i : Nat) : (gatherN c).testBit i = (decide (i < 31) && c.testBit (2 * i)) := by
  obtain ⟨f, hf⟩ : ∃ f : Nat → Bool, ∀ j, f j = c.testBit (2 * j) := ⟨_, fun _ => rfl⟩
  have h0 : ∀ i, (c &&& 6148914691236517205).testBit i = (decide (i < 64) && decide (i % 2 < 1) && f (i / 2 * 1 + i % 2)) := by
    intro i
    rw [Nat.testBit_and, mask1]
    by_cases h6 : i % 2 < 1
    · rw [show i / 2 * 1 + i % 2 = i / 2 by omega, hf, show 2 * (i / 2) = i by omega, Bool.and_comm]
    · simp [h6]
  have h4 := down16 (down8 (down4 (down2 h0 mask2) mask4) mask8) mask16
  unfold gatherN
  rw [downN_bit, h4 i, h4 (16 + i)]
  have hm : Nat.testBit 2147483647 i = decide (i < 31) := Nat.testBit_two_pow_sub_one 31 i
  rw [hm, ← hf]
  by_cases h1 : i < 31
  · by_cases h2 : i < 16
    · have h3 : ¬ (16 + i) % 32 < 16 := by omega
      have h5 : i % 32 < 16 := by omega
      have h6 : i < 64 := by omega
      rw [show i / 32 * 16 + i % 32 = i by omega]
      simp [h1, h3, h5, h6]
    · have h3 : (16 + i) % 32 < 16 := by omega
      have h5 : ¬ i % 32 < 16 := by omega
      have h6 : 16 + i < 64 := by omega
      rw [show (16 + i) / 32 * 16 + (16 + i) % 32 = i by omega]
      simp [h1, h3, h5, h6]
  · simp [h1]
theorem evenF_bit : ∀ (k n i : Nat), (evenF k n).testBit i = (decide (i < k) && n.testBit (2 * i))
  | 0, n, i => by simp [evenF]
  | k + 1, n, 0 => by
    rw [evenF_succ, Nat.mul_zero, Nat.testBit_zero, Nat.testBit_zero]
    simp
  | k + 1, n, i + 1 => by
    rw [show 2 * (i + 1) = 2 * i + 1 + 1 by omega, Nat.testBit_succ, Nat.testBit_succ, Nat.testBit_succ, evenF_succ, show (2 * evenF k (n / 4) + n % 2) / 2 = evenF k (n / 4) by omega, evenF_bit k, Nat.div_div_eq_div_mul]
    simp
theorem oddF_eq : ∀ (k n : Nat), oddF k n = evenF k (n / 2)
  | 0, n => rfl
  | k + 1, n => by rw [oddF_succ, evenF_succ, oddF_eq k, Nat.div_div_eq_div_mul, Nat.div_div_eq_div_mul]
theorem gatherN_eq (c : Nat) : gatherN c = evenF 31 c := Nat.eq_of_testBit_eq fun i => by rw [gatherN_bit, evenF_bit]
theorem spreadN_eq {n : Nat} (h : n < 2 ^ 31) : spreadN n = codeF 31 n 0 := by
  refine Nat.eq_of_testBit_eq fun i => ?_
  rw [spreadN_bit (by omega)]
  obtain ⟨j, hj⟩ : ∃ j, i = 2 * j ∨ i = 2 * j + 1 := ⟨i / 2, by omega⟩
  rcases hj with rfl | rfl
  · rw [codeF_even, show 2 * j / 2 = j by omega]
    by_cases h1 : j < 31
    · simp [h1]; omega
    · rw [bit_high h (by omega)]; simp
  · rw [codeF_odd]
    simp
theorem codeF_or (c r : Nat) : codeF 31 c 0 ||| codeF 31 r 0 * 2 = codeF 31 c r := by
  refine Nat.eq_of_testBit_eq fun i => ?_
  rw [Nat.testBit_or, show codeF 31 r 0 * 2 = codeF 31 r 0 * 2 ^ 1 from rfl, Nat.testBit_mul_two_pow]
  obtain ⟨j, hj⟩ : ∃ j, i = 2 * j ∨ i = 2 * j + 1 := ⟨i / 2, by omega⟩
  rcases hj with rfl | rfl
  · rw [codeF_even, codeF_even]
    cases j with
    | zero => simp
    | succ j => rw [show 2 * (j + 1) - 1 = 2 * j + 1 by omega, codeF_odd]; simp
  · rw [codeF_odd, codeF_odd, show 2 * j + 1 - 1 = 2 * j by omega, codeF_even]
    simp
theorem codeF_low : ∀ (k c : Nat), codeF k c 0 < 4 ^ k := fun k c => codeF_lt k c 0
end Go.Proofs.Ythakngphffoooaa.Mo
/-
  Contracts of layer 4 (morton) on numbers of cells: fits, spread, Code, and the document's Code. Memory is left as it was.
-/
namespace Go.Proofs.Ythakngphffoooaa.Mo
open Go.RowKit

/-- May a column, or a row, have a number? -/
def fitB (n : Int) : Bool := decide (0 ≤ n) && decide (n ≤ 2147483647)
theorem fitB_iff {n : Int} : fitB n = true ↔ 0 ≤ n ∧ n ≤ 2147483647 := by simp [fitB]
theorem fitB_no {n : Int} (h : fitB n = false) : n < 0 ∨ 2147483647 < n := by
  have : ¬ (0 ≤ n ∧ n ≤ 2147483647) := fun h1 => by rw [fitB_iff.2 h1] at h; cases h
  omega
theorem fitB_nat {n : Int} (h : fitB n = true) : ∃ k : Nat, n = k ∧ k < 2147483648 := by
  obtain ⟨h1, h2⟩ := fitB_iff.1 h
  exact ⟨n.toNat, by omega, by omega⟩
theorem fitB_of {k : Nat} (h : k < 2147483648) : fitB k = true := fitB_iff.2 (by omega)

theorem upI (b g m r : Nat) (hb : b < 18446744073709551616) (hm : m < 18446744073709551616) (h : (b ||| b * g % 18446744073709551616) &&& m = r) :
    bits .and .u64 (bits .or .u64 (b : Int) (IntKind.u64.wrap ((b : Int) * (g : Int)))) (m : Int) = (r : Int) := by
  have e : IntKind.u64.wrap ((b : Int) * (g : Int)) = ((b * g % 18446744073709551616 : Nat) : Int) := by rw [IntKind.wrap_u64]; simp
  have ho : b ||| b * g % 18446744073709551616 < 2 ^ 64 := Nat.or_lt_two_pow hb (Nat.mod_lt _ (by decide))
  rw [e, bits_or_u64_nat _ _ hb (Nat.mod_lt _ (by decide)), bits_and_u64_nat _ _ ho hm, h]
theorem upI0 (b g m r : Nat) (hb : b * g < 18446744073709551616) (hg : 0 < g) (hm : m < 18446744073709551616) (h : (b ||| b * g % 18446744073709551616) &&& m = r) :
    bits .and .u64 (bits .or .u64 (b : Int) ((b : Int) * (g : Int))) (m : Int) = (r : Int) := by
  have hb' : b < 18446744073709551616 := Nat.lt_of_le_of_lt (Nat.le_mul_of_pos_right b hg) hb
  rw [Nat.mod_eq_of_lt hb] at h
  have ho : b ||| b * g < 2 ^ 64 := Nat.or_lt_two_pow hb' hb
  rw [show (b : Int) * (g : Int) = ((b * g : Nat) : Int) by simp, bits_or_u64_nat _ _ hb' hb, bits_and_u64_nat _ _ ho hm, h]
theorem and_lt {b m : Nat} (hm : m < 18446744073709551616) : b &&& m < 18446744073709551616 := Nat.lt_of_le_of_lt Nat.and_le_right hm

end Go.Proofs.Ythakngphffoooaa.Mo
/-
  Contract of cover.codes: the numbers of a block's cells, row by row, in a slice of the call's own. Memory that was there is left as it was.
-/
namespace Go.Proofs.Ythakngphffoooaa.Cv
open Go.RowKit Go.Proofs.Ythakngphffoooaa.So Go.Proofs.Ythakngphffoooaa.Mo
set_option linter.unusedVariables false

theorem own_wide {W : World} {base base' n : Nat} {t : TypeId} {v : Value} {xs : List Value} (h : W.ownsRow base t 1 v n xs) (hb : base' ≤ base) : W.ownsRow base' t 1 v n xs := by
  rcases h with ⟨h1, h2 | ⟨g, cap, cur, e, h3, h4⟩⟩
  · exact ⟨h1, Or.inl h2⟩
  · exact ⟨h1, Or.inr ⟨g, cap, cur, e, by omega, h4⟩⟩
def codeI (i j : Nat) : Int := (codeF 31 i j : Nat)
theorem code_inj {i j a b : Nat} (h1 : i < 1000) (h2 : j < 1000) (h3 : a < 1000) (h4 : b < 1000) (h : codeI i j = codeI a b) : i = a ∧ j = b :=
  (codeF_inj (k := 31) (by omega) (by omega) (by omega) (by omega)).1 (Int.ofNat.inj h)
/-- The four cells of the parameter's block. -/
def Four (v : World) (B : Nat) (a b c d : Int) : Prop := B < v.heap.size ∧ v.cell? ⟨B, 0, none⟩ = some (.int .i64 a) ∧ v.cell? ⟨B, 1, none⟩ = some (.int .i64 b) ∧ v.cell? ⟨B, 2, none⟩ = some (.int .i64 c) ∧ v.cell? ⟨B, 3, none⟩ = some (.int .i64 d)
theorem Four.later {v W : World} {B : Nat} {a b c d : Int} (h : Four v B a b c d) (hb : Below v.heap.size v W) : Four W B a b c d := by
  obtain ⟨h0, h1, h2, h3, h4⟩ := h
  exact ⟨Nat.lt_of_lt_of_le h0 hb.size, (hb.cell (p := ⟨B, 0, none⟩) h0).trans h1, (hb.cell (p := ⟨B, 1, none⟩) h0).trans h2, (hb.cell (p := ⟨B, 2, none⟩) h0).trans h3, (hb.cell (p := ⟨B, 3, none⟩) h0).trans h4⟩
theorem Four.new (w : World) (a b c d : Int) (t : TypeId) : Four (w.alloc (.cells #[.int .i64 a, .int .i64 b, .int .i64 c, .int .i64 d] t)) w.heap.size a b c d := by
  refine ⟨by simp, ?_, ?_, ?_, ?_⟩ <;> simp [go_sem]

/-- Between the rounds of a loop: so far ps has been collected, in a slice of one's own. -/
def CoR (v : World) (t : TypeId) (f : Nat → Nat → Int) (a1 b1 b2 a2 : Nat) (vi vo : Value) (wr : World) : Prop :=
  ∃ (a : Nat) (ps : List Int), vi = .int .i64 a ∧ a1 ≤ a ∧ a ≤ a2 + 1 ∧ Coll f a1 b1 b2 a b1 ps ∧ wr.ownsRow v.heap.size t 1 vo ps.length (u64s ps) ∧ Below v.heap.size v wr
def CoC (v : World) (t : TypeId) (f : Nat → Nat → Int) (a1 b1 b2 a : Nat) (vj vo : Value) (wr : World) : Prop :=
  ∃ (b : Nat) (ps : List Int), vj = .int .i64 b ∧ b1 ≤ b ∧ b ≤ b2 + 1 ∧ Coll f a1 b1 b2 a b ps ∧ wr.ownsRow v.heap.size t 1 vo ps.length (u64s ps) ∧ Below v.heap.size v wr

end Go.Proofs.Ythakngphffoooaa.Cv
/-
  Contracts of the document's answers for layer 4: two, Cell, less and Box. Memory that was there is left as it was.
-/
namespace Go.Proofs.Ythakngphffoooaa.Mo
open Go.RowKit Go.Proofs.Ythakngphffoooaa.Pt Go.Proofs.Ythakngphffoooaa.Rc

theorem less_any (a b : Int) (w : World) : Calls Try.prog 59 #[.int .i64 a, .int .i64 b] w fun e w' => e = .returned (.int .i64 (mn a b)) ∧ w = w' := by
  go_enter Try.func59, Try.ntmps59
  go_wp2
  all_goals (go_ret; exact ⟨by simp [mn, *] <;> omega, rfl⟩)

def TwoRel (w : World) (k : Nat) (p i : Value) (wr : World) : Prop := ∃ j : Nat, j ≤ k ∧ p = .int .i64 ((2 : Int) ^ j) ∧ i = .int .i64 j ∧ w = wr
theorem two_any (k : Nat) (w : World) (hk : k ≤ 31) : Calls Try.prog 61 #[.int .i64 k] w fun e w' => e = .returned (.int .i64 ((2 : Int) ^ k)) ∧ w = w' := by
  go_enter Try.func61, Try.ntmps61
  go_wp2_with fail
  go_loopw [3, 4] (fun p i wr => TwoRel w k p i wr) (fun _ i _ => k - (intOf i).toNat)
  case atStart => exact ⟨0, Nat.zero_le _, rfl, rfl, rfl⟩
  case round =>
    obtain ⟨j, hj, rfl, rfl, rfl⟩ := hrel
    have hp : (2 : Int) ^ j ≤ 2147483648 := by
      have : (2 : Nat) ^ j ≤ 2 ^ 31 := Nat.pow_le_pow_right (by decide) (by omega)
      have h2 : ((2 ^ j : Nat) : Int) = (2 : Int) ^ j := by simp
      omega
    have hq := two_pos j
    have hn : (2 : Int) ^ (j + 1) = 2 * 2 ^ j := by rw [Int.pow_succ, Int.mul_comm]
    obtain ⟨t, ht⟩ : ∃ t, t = (2 : Int) ^ j := ⟨_, rfl⟩
    rw [← ht] at hp hq hn ⊢
    by_cases hlt : j < k
    · have T := Lib.hid ht
      have HN := Lib.hid hn
      clear ht hn
      go_wp2_with fail
      go_roundw
      case rel => exact ⟨j + 1, by omega, by rw [HN.out], by go_num, rfl⟩
      case measure => simp [intOf]; omega
    · obtain rfl : j = k := by omega
      have T := Lib.hid ht
      clear ht hn
      go_wp2_with fail
      go_ret
      exact ⟨by rw [← T.out]; rfl, rfl⟩

theorem refCell_any (k : Nat) (n : Int) (w : World) (h1 : 24 ≤ k) (h2 : k ≤ 31) (hn : inR n = true) : Calls Try.prog 46 #[.int .i64 k, .int .i64 n] w fun e w' => e = .returned (.int .i64 (colI k n)) ∧ w = w' := by
  obtain ⟨n1, n2⟩ := inR_iff.1 hn
  obtain ⟨p1, p2⟩ := pow_bd h1 h2
  have C := two_any k
  unfold colI
  obtain ⟨t, ht⟩ : ∃ t, t = (2 : Int) ^ k := ⟨_, rfl⟩
  rw [← ht] at p1 p2 C ⊢
  clear ht hn
  have q := Int.ediv_nonneg (a := n + 1073741824) (b := t) (by omega) (by omega)
  have q2 := Int.ediv_le_self (a := n + 1073741824) t (by omega)
  have e : Int.tdiv (n + 1073741824) t = (n + 1073741824) / t := Int.tdiv_eq_ediv_of_nonneg (by omega)
  have hz : ¬ t = 0 := by omega
  go_enter Try.func46, Try.ntmps46
  go_wp2_with fail
  refine (C _ h2).mono ?_
  rintro e w1 ⟨rfl, rfl⟩
  go_wp2_with fail
  go_ret
  exact ⟨rfl, rfl⟩

theorem refBox_any (k : Nat) (c r : Int) (w : World) (h1 : 24 ≤ k) (h2 : k ≤ 31) (hc : belB c (sideI k) = true) (hr : belB r (sideI k) = true) : Calls Try.prog 45 #[.int .i64 k, .int .i64 c, .int .i64 r] w fun e w' => e = .returned (.agg #[.int .i64 (firI k c), .int .i64 (firI k r), .int .i64 (lasI k c), .int .i64 (lasI k r)]) ∧ Below w.heap.size w w' := by
  obtain ⟨n1, n2⟩ := belB_iff.1 hc
  obtain ⟨m1, m2⟩ := col_bd h2 n1 n2
  obtain ⟨n3, n4⟩ := belB_iff.1 hr
  obtain ⟨m3, m4⟩ := col_bd h2 n3 n4
  obtain ⟨p1, p2⟩ := pow_bd h1 h2
  have C := two_any k
  unfold lasI firI
  clear n1 n2 n3 n4 hc hr
  obtain ⟨t, ht⟩ : ∃ t, t = (2 : Int) ^ k := ⟨_, rfl⟩
  rw [← ht] at p1 p2 m1 m2 m3 m4 C ⊢
  clear ht
  obtain ⟨u, hu⟩ : ∃ u, c * t = u := ⟨_, rfl⟩
  obtain ⟨v, hv⟩ : ∃ v, r * t = v := ⟨_, rfl⟩
  rw [hu] at m1 m2 ⊢
  rw [hv] at m3 m4 ⊢
  go_enter Try.func45, Try.ntmps45
  go_wp2_with (first | (go_at_call 61; refine (C _ h2).mono ?_; rintro e w' ⟨rfl, rfl⟩) | (go_at_call 59; refine (less_any _ _ _).mono ?_; rintro e w' ⟨rfl, rfl⟩))
  exact bodyPost_ret (v := .agg #[.int .i64 (u - 1073741824), .int .i64 (v - 1073741824), .int .i64 (mn (u - 1073741824 + t - 1) 1073741824), .int .i64 (mn (v - 1073741824 + t - 1) 1073741824)]) (by simp [results, Try.results45, go_sem]) rfl ⟨rfl, (Below.refl _ _).alloc (Nat.le_refl _) _⟩
end Go.Proofs.Ythakngphffoooaa.Mo
namespace Go.Proofs.Ythakngphffoooaa.Cv
open Go.RowKit Go.Proofs.Ythakngphffoooaa.Pt Go.Proofs.Ythakngphffoooaa.Rc Go.Proofs.Ythakngphffoooaa.Mo Go.Proofs.Ythakngphffoooaa.Pts
set_option linter.unusedVariables false

theorem rc_later {W w1 : World} {g : Nat} (h : ∃ a b c d, Rc4 W g a b c d) (hb : Below W.heap.size W w1) : ∃ a b c d, Rc4 w1 g a b c d := by
  obtain ⟨a, b, c, d, h⟩ := h
  exact ⟨a, b, c, d, h.later hb⟩

set_option maxHeartbeats 4000000 in
set_option maxRecDepth 100000 in
theorem refCover_any (k : Nat) (x1 y1 x2 y2 : Int) (w : World) (h1 : 24 ≤ k) (h2 : k ≤ 31) (h : rmayB x1 y1 x2 y2 = true) : Calls Try.prog 26 #[.int .i64 k, .agg #[.int .i64 x1, .int .i64 y1, .int .i64 x2, .int .i64 y2]] w fun e w' =>
    e = .returned (.agg #[.int .i64 (firI k (colI k x1)), .int .i64 (firI k (colI k y1)), .int .i64 (lasI k (colI k x2)), .int .i64 (lasI k (colI k y2))]) ∧ Below w.heap.size w w' := by
  obtain ⟨m1, m2⟩ := rmay_two h
  obtain ⟨j1, j2, j3, j4⟩ := box_join (k := k) h
  have HM := rmayB_iff.1 (box_may (k := k) h)
  obtain ⟨ba, bb, bc, bd, be, bf⟩ := rmayB_bd h
  have lx1 : inR (lasI k (colI k x1)) = true := inR_iff.2 ⟨by have := las_self (k := k) (n := x1) (by omega); omega, las_le _ _⟩
  have ly1 : inR (lasI k (colI k y1)) = true := inR_iff.2 ⟨by have := las_self (k := k) (n := y1) (by omega); omega, las_le _ _⟩
  have lx2 : inR (lasI k (colI k x2)) = true := inR_iff.2 ⟨by have := las_self (k := k) (n := x2) (by omega); omega, las_le _ _⟩
  have ly2 : inR (lasI k (colI k y2)) = true := inR_iff.2 ⟨by have := las_self (k := k) (n := y2) (by omega); omega, las_le _ _⟩
  have K1 := Lib.hid (fun W => refCell_any k x1 W h1 h2 (mayB_bd m1).1)
  have K2 := Lib.hid (fun W => refCell_any k y1 W h1 h2 (mayB_bd m1).2)
  have K3 := Lib.hid (fun W => refCell_any k x2 W h1 h2 (mayB_bd m2).1)
  have K4 := Lib.hid (fun W => refCell_any k y2 W h1 h2 (mayB_bd m2).2)
  have B1 := Lib.hid (fun W => refBox_any k (colI k x1) (colI k y1) W h1 h2 (col_bel h2 m1).1 (col_bel h2 m1).2)
  have B2 := Lib.hid (fun W => refBox_any k (colI k x2) (colI k y2) W h1 h2 (col_bel h2 m2).1 (col_bel h2 m2).2)
  have J := Lib.hid (fun W => refJoin_any (firI k (colI k x1)) (firI k (colI k y1)) (lasI k (colI k x1)) (lasI k (colI k y1)) (firI k (colI k x2)) (firI k (colI k y2)) (lasI k (colI k x2)) (lasI k (colI k y2)) W lx1 ly1 lx2 ly2)
  rw [j1, j2, j3, j4] at J
  obtain ⟨c1, e1⟩ : ∃ c, c = colI k x1 := ⟨_, rfl⟩
  obtain ⟨r1, e2⟩ : ∃ c, c = colI k y1 := ⟨_, rfl⟩
  obtain ⟨c2, e3⟩ : ∃ c, c = colI k x2 := ⟨_, rfl⟩
  obtain ⟨r2, e4⟩ : ∃ c, c = colI k y2 := ⟨_, rfl⟩
  rw [← e1] at K1; rw [← e2] at K2; rw [← e3] at K3; rw [← e4] at K4
  rw [← e1, ← e2] at B1
  rw [← e3, ← e4] at B2
  rw [← e1, ← e2, ← e3, ← e4] at J ⊢
  obtain ⟨f1, g1⟩ : ∃ c, c = firI k c1 := ⟨_, rfl⟩
  obtain ⟨f2, g2⟩ : ∃ c, c = firI k r1 := ⟨_, rfl⟩
  obtain ⟨f3, g3⟩ : ∃ c, c = lasI k c1 := ⟨_, rfl⟩
  obtain ⟨f4, g4⟩ : ∃ c, c = lasI k r1 := ⟨_, rfl⟩
  obtain ⟨l1, i1⟩ : ∃ c, c = firI k c2 := ⟨_, rfl⟩
  obtain ⟨l2, i2⟩ : ∃ c, c = firI k r2 := ⟨_, rfl⟩
  obtain ⟨l3, i3⟩ : ∃ c, c = lasI k c2 := ⟨_, rfl⟩
  obtain ⟨l4, i4⟩ : ∃ c, c = lasI k r2 := ⟨_, rfl⟩
  rw [← g1, ← g2, ← g3, ← g4, ← i1, ← i2, ← i3, ← i4] at J
  rw [← g1, ← g2, ← g3, ← g4] at B1
  rw [← i1, ← i2, ← i3, ← i4] at B2
  rw [← g1, ← g2, ← i3, ← i4]
  clear e1 e2 e3 e4 g1 g2 g3 g4 i1 i2 i3 i4 m1 m2 h HM lx1 ly1 lx2 ly2 j1 j2 j3 j4 ba bb bc bd be bf
  have hFour := Four.new w x1 y1 x2 y2 23
  have hR0 := Rc4.new (w.alloc (.cells #[.int .i64 x1, .int .i64 y1, .int .i64 x2, .int .i64 y2] 23)) 0 0 0 0 23
  rw [World.size_alloc] at hR0
  have B0 := Lib.hid (((Below.refl (w.alloc (.cells #[.int .i64 x1, .int .i64 y1, .int .i64 x2, .int .i64 y2] 23)).heap.size (w.alloc (.cells #[.int .i64 x1, .int .i64 y1, .int .i64 x2, .int .i64 y2] 23))).alloc (Nat.le_refl _) (.cells #[.int .i64 0, .int .i64 0, .int .i64 0, .int .i64 0] 23)).drew)
  have R0 := Lib.hid (Rc4.drew hR0)
  obtain ⟨v, hv⟩ : ∃ v, v = w.alloc (.cells #[.int .i64 x1, .int .i64 y1, .int .i64 x2, .int .i64 y2] 23) := ⟨_, rfl⟩
  have BV := Lib.hid (show Below w.heap.size w v ∧ w.heap.size ≤ v.heap.size ∧ v.heap.size ≤ w.heap.size + 1 by rw [hv]; exact ⟨(Below.refl _ _).alloc (Nat.le_refl _) _, by simp, by simp⟩)
  rw [← hv] at hFour
  have hvs : (w.alloc (.cells #[.int .i64 x1, .int .i64 y1, .int .i64 x2, .int .i64 y2] 23)) = v := hv.symm
  have HV := Lib.hid hvs
  rw [hvs] at B0 R0
  have HS : Hid (∀ W, (∃ a b c d, Rc4 W (w.heap.size + 1) a b c d) → Below v.heap.size v W → W.cell? ⟨w.heap.size, 0, none⟩ = some (.int .i64 x1) ∧ W.cell? ⟨w.heap.size, 1, none⟩ = some (.int .i64 y1) ∧ W.cell? ⟨w.heap.size, 2, none⟩ = some (.int .i64 x2) ∧ W.cell? ⟨w.heap.size, 3, none⟩ = some (.int .i64 y2) ∧ (∃ a b c d, Rc4 W (w.heap.size + 1) a b c d) ∧ Below v.heap.size v W) := Lib.hid fun W hR hB => by
    obtain ⟨_, a1, a2, a3, a4⟩ := hFour.later hB
    exact ⟨a1, a2, a3, a4, hR, hB⟩
  clear hFour hR0 hv hvs
  go_enter Try.func26, Try.ntmps26
  go_wp2_with fail
  rw [HV.out]
  refine wp_region_held_drew (S := (fun W => W.cell? ⟨w.heap.size, 0, none⟩ = some (.int .i64 x1) ∧ W.cell? ⟨w.heap.size, 1, none⟩ = some (.int .i64 y1) ∧ W.cell? ⟨w.heap.size, 2, none⟩ = some (.int .i64 x2) ∧ W.cell? ⟨w.heap.size, 3, none⟩ = some (.int .i64 y2) ∧ (∃ a b c d, Rc4 W (w.heap.size + 1) a b c d) ∧ Below v.heap.size v W)) (by kernel_rfl) (HS.out _ ⟨0, 0, 0, 0, R0.out⟩ B0.out) (fun hHeld => ?_)
  refine wpAnyH_take (i := 0) (v := ?v0) rfl (by kernel_rfl) (by kernel_rfl) (by kernel_rfl) (fun _ _ _ h => h) (Or.inl ⟨by rfl, ?y0⟩) hHeld ?r0
  case y0 => (intro W hSw; simp only [List.getElem_toArray, List.getElem_cons_zero]; go_simp; try (with_reducible rfl))
  simp only [List.getElem_toArray, List.getElem_cons_zero, Act.put, List.setIfInBounds_toArray, List.set_cons_zero, List.set_cons_succ]
  refine wpAnyH_take (i := 1) (v := ?v1) rfl (by kernel_rfl) (by kernel_rfl) (by kernel_rfl) (fun _ _ _ h => h) (Or.inl ⟨by rfl, ?y1⟩) hHeld ?r1
  case y1 => (intro W hSw; simp only [List.getElem_toArray, List.getElem_cons_succ, List.getElem_cons_zero]; go_simp; try (with_reducible rfl))
  simp only [List.getElem_toArray, List.getElem_cons_succ, List.getElem_cons_zero, Act.put, List.setIfInBounds_toArray, List.set_cons_zero, List.set_cons_succ]
  refine wpAnyH_take (i := 2) (v := ?v2) rfl (by kernel_rfl) (by kernel_rfl) (by kernel_rfl) (fun _ _ _ h => h) (Or.inl ⟨by rfl, ?y2⟩) hHeld ?r2
  case y2 => (intro W hSw; simp only [List.getElem_toArray, List.getElem_cons_succ, List.getElem_cons_zero]; go_simp; try (with_reducible rfl))
  simp only [List.getElem_toArray, List.getElem_cons_succ, List.getElem_cons_zero, Act.put, List.setIfInBounds_toArray, List.set_cons_zero, List.set_cons_succ]
  refine wpAnyH_take (i := 3) (v := ?v3) rfl (by kernel_rfl) (by kernel_rfl) (by kernel_rfl) (fun _ _ _ h => h) (Or.inl ⟨by rfl, ?y3⟩) hHeld ?r3
  case y3 => (intro W hSw; simp only [List.getElem_toArray, List.getElem_cons_succ, List.getElem_cons_zero]; go_simp; try (with_reducible rfl))
  simp only [List.getElem_toArray, List.getElem_cons_succ, List.getElem_cons_zero, Act.put, List.setIfInBounds_toArray, List.set_cons_zero, List.set_cons_succ]
  refine wpAnyH_take (i := 5) (v := ?v5) rfl (by kernel_rfl) (by kernel_rfl) (by kernel_rfl) (fun _ _ _ h => h) (Or.inl ⟨by rfl, ?y5⟩) hHeld ?r5
  case y5 => (intro W hSw; simp only [List.getElem_toArray, List.getElem_cons_succ, List.getElem_cons_zero]; go_simp; try (with_reducible rfl))
  simp only [List.getElem_toArray, List.getElem_cons_succ, List.getElem_cons_zero, Act.put, List.setIfInBounds_toArray, List.set_cons_zero, List.set_cons_succ]
  refine wpAnyH_take (i := 6) (v := ?v6) rfl (by kernel_rfl) (by kernel_rfl) (by kernel_rfl) (fun _ _ _ h => h) (Or.inl ⟨by rfl, ?y6⟩) hHeld ?r6
  case y6 => (intro W hSw; simp only [List.getElem_toArray, List.getElem_cons_succ, List.getElem_cons_zero]; go_simp; try (with_reducible rfl))
  simp only [List.getElem_toArray, List.getElem_cons_succ, List.getElem_cons_zero, Act.put, List.setIfInBounds_toArray, List.set_cons_zero, List.set_cons_succ]
  refine wpAnyH_take (i := 7) (v := ?v7) rfl (by kernel_rfl) (by kernel_rfl) (by kernel_rfl) (fun _ _ _ h => h) (Or.inl ⟨by rfl, ?y7⟩) hHeld ?r7
  case y7 => (intro W hSw; simp only [List.getElem_toArray, List.getElem_cons_succ, List.getElem_cons_zero]; go_simp; try (with_reducible rfl))
  simp only [List.getElem_toArray, List.getElem_cons_succ, List.getElem_cons_zero, Act.put, List.setIfInBounds_toArray, List.set_cons_zero, List.set_cons_succ]
  refine wpAnyH_take (i := 10) (v := ?v10) rfl (by kernel_rfl) (by kernel_rfl) (by kernel_rfl) (fun _ _ _ h => h) (Or.inl ⟨by rfl, ?y10⟩) hHeld ?r10
  case y10 => (intro W hSw; simp only [List.getElem_toArray, List.getElem_cons_succ, List.getElem_cons_zero]; go_simp; try (with_reducible rfl))
  simp only [List.getElem_toArray, List.getElem_cons_succ, List.getElem_cons_zero, Act.put, List.setIfInBounds_toArray, List.set_cons_zero, List.set_cons_succ]
  refine wpAnyH_take (i := 11) (v := ?v11) rfl (by kernel_rfl) (by kernel_rfl) (by kernel_rfl) (fun _ _ _ h => h) (Or.inl ⟨by rfl, ?y11⟩) hHeld ?r11
  case y11 => (intro W hSw; simp only [List.getElem_toArray, List.getElem_cons_succ, List.getElem_cons_zero]; go_simp; try (with_reducible rfl))
  simp only [List.getElem_toArray, List.getElem_cons_succ, List.getElem_cons_zero, Act.put, List.setIfInBounds_toArray, List.set_cons_zero, List.set_cons_succ]
  refine wpAnyH_take (i := 12) (v := ?v12) rfl (by kernel_rfl) (by kernel_rfl) (by kernel_rfl) (fun _ _ _ h => h) (Or.inl ⟨by rfl, ?y12⟩) hHeld ?r12
  case y12 => (intro W hSw; simp only [List.getElem_toArray, List.getElem_cons_succ, List.getElem_cons_zero]; go_simp; try (with_reducible rfl))
  simp only [List.getElem_toArray, List.getElem_cons_succ, List.getElem_cons_zero, Act.put, List.setIfInBounds_toArray, List.set_cons_zero, List.set_cons_succ]
  refine wpAnyH_take (i := 13) (v := ?v13) rfl (by kernel_rfl) (by kernel_rfl) (by kernel_rfl) (fun _ _ _ h => h) (Or.inl ⟨by rfl, ?y13⟩) hHeld ?r13
  case y13 => (intro W hSw; simp only [List.getElem_toArray, List.getElem_cons_succ, List.getElem_cons_zero]; go_simp; try (with_reducible rfl))
  simp only [List.getElem_toArray, List.getElem_cons_succ, List.getElem_cons_zero, Act.put, List.setIfInBounds_toArray, List.set_cons_zero, List.set_cons_succ]
  refine wpAnyH_take (i := 15) (v := ?v15) rfl (by kernel_rfl) (by kernel_rfl) (by kernel_rfl) (fun _ _ _ h => h) (Or.inl ⟨by rfl, ?y15⟩) hHeld ?r15
  case y15 => (intro W hSw; simp only [List.getElem_toArray, List.getElem_cons_succ, List.getElem_cons_zero]; go_simp; try (with_reducible rfl))
  simp only [List.getElem_toArray, List.getElem_cons_succ, List.getElem_cons_zero, Act.put, List.setIfInBounds_toArray, List.set_cons_zero, List.set_cons_succ]
  refine wpAnyH_take (i := 16) (v := ?v16) rfl (by kernel_rfl) (by kernel_rfl) (by kernel_rfl) (fun _ _ _ h => h) (Or.inl ⟨by rfl, ?y16⟩) hHeld ?r16
  case y16 => (intro W hSw; simp only [List.getElem_toArray, List.getElem_cons_succ, List.getElem_cons_zero]; go_simp; try (with_reducible rfl))
  simp only [List.getElem_toArray, List.getElem_cons_succ, List.getElem_cons_zero, Act.put, List.setIfInBounds_toArray, List.set_cons_zero, List.set_cons_succ]
  refine wpAnyH_take (i := 17) (v := ?v17) rfl (by kernel_rfl) (by kernel_rfl) (by kernel_rfl) (fun _ _ _ h => h) (Or.inl ⟨by rfl, ?y17⟩) hHeld ?r17
  case y17 => (intro W hSw; simp only [List.getElem_toArray, List.getElem_cons_succ, List.getElem_cons_zero]; go_simp; try (with_reducible rfl))
  simp only [List.getElem_toArray, List.getElem_cons_succ, List.getElem_cons_zero, Act.put, List.setIfInBounds_toArray, List.set_cons_zero, List.set_cons_succ]
  refine wpAnyH_ready (rs := [4]) (by kernel_rfl) (by simp) (AllReadyH.cons rfl (fun K hK => ?_) AllReadyH.nil)
  simp only [List.getElem_toArray, List.getElem_cons_succ, List.getElem_cons_zero]
  go_simp
  go_at_call 46; refine (K1.out _).mono ?_; rintro e w1 ⟨rfl, rfl⟩
  try go_wp2_with fail
  refine hK.out _ _ (by first | exact hHeld | exact HS.out _ (rc_later hHeld.2.2.2.2.1 hb1) (hHeld.2.2.2.2.2.trans (hb1.mono hHeld.2.2.2.2.2.size))) (fun hHeld1 => ?_)
  clear hK K hHeld
  have hHeld := hHeld1; clear hHeld1
  try simp only [List.getElem_toArray, List.getElem_cons_succ, List.getElem_cons_zero, Act.put, List.setIfInBounds_toArray, List.set_cons_zero, List.set_cons_succ]
  refine wpAnyH_ready (rs := [8]) (by kernel_rfl) (by simp) (AllReadyH.cons rfl (fun K hK => ?_) AllReadyH.nil)
  simp only [List.getElem_toArray, List.getElem_cons_succ, List.getElem_cons_zero]
  go_simp
  go_at_call 46; refine (K2.out _).mono ?_; rintro e w1 ⟨rfl, rfl⟩
  try go_wp2_with fail
  refine hK.out _ _ (by first | exact hHeld | exact HS.out _ (rc_later hHeld.2.2.2.2.1 hb1) (hHeld.2.2.2.2.2.trans (hb1.mono hHeld.2.2.2.2.2.size))) (fun hHeld1 => ?_)
  clear hK K hHeld
  have hHeld := hHeld1; clear hHeld1
  try simp only [List.getElem_toArray, List.getElem_cons_succ, List.getElem_cons_zero, Act.put, List.setIfInBounds_toArray, List.set_cons_zero, List.set_cons_succ]
  refine wpAnyH_ready (rs := [9]) (by kernel_rfl) (by simp) (AllReadyH.cons rfl (fun K hK => ?_) AllReadyH.nil)
  simp only [List.getElem_toArray, List.getElem_cons_succ, List.getElem_cons_zero]
  go_simp
  go_at_call 45; refine (B1.out _).mono ?_; rintro e w1 ⟨rfl, hb1⟩
  try go_wp2_with fail
  refine hK.out _ _ (by first | exact hHeld | exact HS.out _ (rc_later hHeld.2.2.2.2.1 hb1) (hHeld.2.2.2.2.2.trans (hb1.mono hHeld.2.2.2.2.2.size))) (fun hHeld1 => ?_)
  clear hK K hHeld
  have hHeld := hHeld1; clear hHeld1
  try simp only [List.getElem_toArray, List.getElem_cons_succ, List.getElem_cons_zero, Act.put, List.setIfInBounds_toArray, List.set_cons_zero, List.set_cons_succ]
  refine wpAnyH_ready (rs := [14]) (by kernel_rfl) (by simp) (AllReadyH.cons rfl (fun K hK => ?_) AllReadyH.nil)
  simp only [List.getElem_toArray, List.getElem_cons_succ, List.getElem_cons_zero]
  go_simp
  go_at_call 46; refine (K3.out _).mono ?_; rintro e w1 ⟨rfl, rfl⟩
  try go_wp2_with fail
  refine hK.out _ _ (by first | exact hHeld | exact HS.out _ (rc_later hHeld.2.2.2.2.1 hb1) (hHeld.2.2.2.2.2.trans (hb1.mono hHeld.2.2.2.2.2.size))) (fun hHeld1 => ?_)
  clear hK K hHeld
  have hHeld := hHeld1; clear hHeld1
  try simp only [List.getElem_toArray, List.getElem_cons_succ, List.getElem_cons_zero, Act.put, List.setIfInBounds_toArray, List.set_cons_zero, List.set_cons_succ]
  refine wpAnyH_ready (rs := [18]) (by kernel_rfl) (by simp) (AllReadyH.cons rfl (fun K hK => ?_) AllReadyH.nil)
  simp only [List.getElem_toArray, List.getElem_cons_succ, List.getElem_cons_zero]
  go_simp
  go_at_call 46; refine (K4.out _).mono ?_; rintro e w1 ⟨rfl, rfl⟩
  try go_wp2_with fail
  refine hK.out _ _ (by first | exact hHeld | exact HS.out _ (rc_later hHeld.2.2.2.2.1 hb1) (hHeld.2.2.2.2.2.trans (hb1.mono hHeld.2.2.2.2.2.size))) (fun hHeld1 => ?_)
  clear hK K hHeld
  have hHeld := hHeld1; clear hHeld1
  try simp only [List.getElem_toArray, List.getElem_cons_succ, List.getElem_cons_zero, Act.put, List.setIfInBounds_toArray, List.set_cons_zero, List.set_cons_succ]
  refine wpAnyH_ready (rs := [19]) (by kernel_rfl) (by simp) (AllReadyH.cons rfl (fun K hK => ?_) AllReadyH.nil)
  simp only [List.getElem_toArray, List.getElem_cons_succ, List.getElem_cons_zero]
  go_simp
  go_at_call 45; refine (B2.out _).mono ?_; rintro e w1 ⟨rfl, hb1⟩
  try go_wp2_with fail
  refine hK.out _ _ (by first | exact hHeld | exact HS.out _ (rc_later hHeld.2.2.2.2.1 hb1) (hHeld.2.2.2.2.2.trans (hb1.mono hHeld.2.2.2.2.2.size))) (fun hHeld1 => ?_)
  clear hK K hHeld
  have hHeld := hHeld1; clear hHeld1
  try simp only [List.getElem_toArray, List.getElem_cons_succ, List.getElem_cons_zero, Act.put, List.setIfInBounds_toArray, List.set_cons_zero, List.set_cons_succ]
  refine wpAnyH_ready (rs := [20]) (by kernel_rfl) (by simp) (AllReadyH.cons rfl (fun K hK => ?_) AllReadyH.nil)
  simp only [List.getElem_toArray, List.getElem_cons_succ, List.getElem_cons_zero]
  go_simp
  go_at_call 44; refine (J.out _).mono ?_; rintro e w1 ⟨rfl, hb1⟩
  try go_wp2_with fail
  refine hK.out _ _ (by first | exact hHeld | exact HS.out _ (rc_later hHeld.2.2.2.2.1 hb1) (hHeld.2.2.2.2.2.trans (hb1.mono hHeld.2.2.2.2.2.size))) (fun hHeld1 => ?_)
  clear hK K hHeld
  have hHeld := hHeld1; clear hHeld1
  try simp only [List.getElem_toArray, List.getElem_cons_succ, List.getElem_cons_zero, Act.put, List.setIfInBounds_toArray, List.set_cons_zero, List.set_cons_succ]
  obtain ⟨q1, q2, q3, q4, hRc, hBw⟩ := hHeld
  obtain ⟨z1, z2, z3, z4, hRc⟩ := hRc
  refine wpAnyH_ready (rs := [21]) (by kernel_rfl) (by simp) (AllReadyH.cons rfl (fun K hK => ?_) AllReadyH.nil)
  simp only [List.getElem_toArray, List.getElem_cons_succ, List.getElem_cons_zero]
  have hR1 := hRc
  obtain ⟨a0, a1, a2, a3, a4, a5, a6, a7⟩ := hR1
  go_simp
  clear a0 a1 a2 a3 a4 a5 a6 a7
  have RN := Lib.hid (hRc.set f1 f2 l3 l4)
  have hg : v.heap.size ≤ w.heap.size + 1 := BV.out.2.2
  have BN := Lib.hid ((((hBw.setCell (p := ⟨w.heap.size + 1, 0, none⟩) hg (.int .i64 f1)).setCell (p := ⟨w.heap.size + 1, 1, none⟩) hg (.int .i64 f2)).setCell (p := ⟨w.heap.size + 1, 2, none⟩) hg (.int .i64 l3)).setCell (p := ⟨w.heap.size + 1, 3, none⟩) hg (.int .i64 l4))
  refine hK.out _ _ (HS.out _ ⟨_, _, _, _, RN.out⟩ BN.out) (fun _ => ?_)
  clear hK K hRc hBw q1 q2 q3 q4
  refine wpAnyH_done (by kernel_rfl) ?_ _
  obtain ⟨a0, a1, a2, a3, a4, a5, a6, a7⟩ := RN.out
  go_wp2_with fail
  refine bodyPost_ret (v := .agg #[.int .i64 f1, .int .i64 f2, .int .i64 l3, .int .i64 l4]) (by simp [results, Try.results26, go_sem, *]) rfl ⟨rfl, BV.out.1.trans (BN.out.mono BV.out.2.1)⟩
end Go.Proofs.Ythakngphffoooaa.Cv
