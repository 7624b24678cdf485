/-
  The plain geometry behind layer 3 (poly), its third part: what is asked of a list's points one by one makes a simple polygon, and the other way round. No program here.
-/
import Derived.Test.YtiggjaodfmelpaaPlBox
namespace Go.Proofs.Ytiggjaodfmelpaa.Pl
open Go.Proofs.Ytiggjaodfmelpaa.Pt Go.Proofs.Ytiggjaodfmelpaa.Rc

theorem dvd_near {n : Nat} {x : Int} (h1 : -(n : Int) < x) (h2 : x < (n : Int)) : (n : Int) ∣ x ↔ x = 0 := by
  constructor
  · rintro ⟨q, rfl⟩
    rcases Int.lt_trichotomy q 0 with h | h | h
    · have : (n : Int) * q ≤ (n : Int) * (-1) := Int.mul_le_mul_of_nonneg_left (by omega) (by omega)
      omega
    · rw [h, Int.mul_zero]
    · have : (n : Int) * 1 ≤ (n : Int) * q := Int.mul_le_mul_of_nonneg_left (by omega) (by omega)
      omega
  · rintro rfl; exact Int.dvd_zero _
theorem dvd_round {n : Nat} {x : Int} (q : Int) : (n : Int) ∣ x + (n : Int) * q ↔ (n : Int) ∣ x :=
  ⟨fun h => by have := Int.dvd_sub h (Int.dvd_mul_right (n : Int) q); rwa [Int.add_sub_cancel] at this, fun h => Int.dvd_add h (Int.dvd_mul_right _ _)⟩
/-- The one behind i. -/
theorem succ_mod {n i : Nat} (h : i < n) : (i + 1) % n = if i + 1 = n then 0 else i + 1 := by
  split
  · rename_i e; rw [e, Nat.mod_self]
  · exact Nat.mod_eq_of_lt (by omega)
theorem dvd_next {n i k : Nat} (hi : i < n) (hk : k < n) : (n : Int) ∣ ((k : Int) - i - 1) ↔ k = (i + 1) % n := by
  rw [succ_mod hi]
  by_cases e : i + 1 = n
  · rw [if_pos e, show (k : Int) - i - 1 = (k : Int) + (n : Int) * (-1) by omega, dvd_round, dvd_near (by omega) (by omega)]; omega
  · rw [if_neg e, dvd_near (by omega) (by omega)]; omega

/-- What is asked of a list's points: first each by itself, then each edge. -/
def OwnL (l : List Pnt) (i : Nat) : Prop := pmay (at_ l i) = true ∧ ∀ k : Nat, k < i → at_ l i ≠ at_ l k
def EdgeL (l : List Pnt) (i : Nat) : Prop := onP (at_ l i) (at_ l (i + 1)) (at_ l (i + 2)) = false ∧ onP (at_ l (i + 1)) (at_ l (i + 2)) (at_ l i) = false ∧
  ∀ k : Nat, k < l.length → k ≠ i → k ≠ (i + 1) % l.length → i ≠ (k + 1) % l.length → crossP (at_ l i) (at_ l (i + 1)) (at_ l k) (at_ l (k + 1)) = false
theorem simpleQ_of {l : List Pnt} (hl : 0 < l.length) (h1 : ∀ i : Nat, i < l.length → OwnL l i) (h2 : ∀ i : Nat, i < l.length → EdgeL l i) : SimpleQ l.length (at_ l) where
  may i := by
    obtain ⟨r, q, hr, rfl⟩ := parts_of l.length hl i
    rw [at_per]; exact (h1 r hr).1
  own i k hd := by
    obtain ⟨r, q, hr, rfl⟩ := parts_of l.length hl i
    obtain ⟨s, u, hs, rfl⟩ := parts_of l.length hl k
    rw [at_per, at_per]
    rw [show (r : Int) + (l.length : Int) * q - ((s : Int) + (l.length : Int) * u) = (r : Int) - s + (l.length : Int) * (q - u) by rw [Int.mul_sub]; omega, dvd_round, dvd_near (by omega) (by omega)] at hd
    rcases Nat.lt_trichotomy r s with h | h | h
    · exact fun e => (h1 s hs).2 r h e.symm
    · omega
    · exact (h1 r hr).2 s h
  next i := by
    obtain ⟨r, q, hr, rfl⟩ := parts_of l.length hl i
    rw [show (r : Int) + (l.length : Int) * q + 1 = (r : Int) + 1 + (l.length : Int) * q by omega, show (r : Int) + (l.length : Int) * q + 2 = (r : Int) + 2 + (l.length : Int) * q by omega, at_per, at_per, at_per]
    exact ⟨(h2 r hr).1, (h2 r hr).2.1⟩
  apart i k a b c := by
    obtain ⟨r, q, hr, rfl⟩ := parts_of l.length hl i
    obtain ⟨s, u, hs, rfl⟩ := parts_of l.length hl k
    rw [show (s : Int) + (l.length : Int) * u - ((r : Int) + (l.length : Int) * q) = (s : Int) - r + (l.length : Int) * (u - q) by rw [Int.mul_sub]; omega] at a b
    rw [show (r : Int) + (l.length : Int) * q - ((s : Int) + (l.length : Int) * u) - 1 = (r : Int) - s - 1 + (l.length : Int) * (q - u) by rw [Int.mul_sub]; omega, dvd_round, dvd_next hs hr] at c
    rw [dvd_round, dvd_near (by omega) (by omega)] at a
    rw [show (s : Int) - r + (l.length : Int) * (u - q) - 1 = (s : Int) - r - 1 + (l.length : Int) * (u - q) by omega, dvd_round, dvd_next hr hs] at b
    rw [show (r : Int) + (l.length : Int) * q + 1 = (r : Int) + 1 + (l.length : Int) * q by omega, show (s : Int) + (l.length : Int) * u + 1 = (s : Int) + 1 + (l.length : Int) * u by omega, at_per, at_per, at_per, at_per]
    exact (h2 r hr).2.2 s hs (by omega) b c
theorem SimpleQ.ownL {l : List Pnt} (h : SimpleQ l.length (at_ l)) {i : Nat} (hi : i < l.length) : OwnL l i :=
  ⟨h.may _, fun k hk => h.own _ _ (by rw [dvd_near (by omega) (by omega)]; omega)⟩
theorem SimpleQ.edgeL {l : List Pnt} (h : SimpleQ l.length (at_ l)) {i : Nat} (hi : i < l.length) : EdgeL l i :=
  ⟨(h.next i).1, (h.next i).2, fun k hk a b c => h.apart i k (by rw [dvd_near (by omega) (by omega)]; omega) (by rw [dvd_next hi hk]; exact b) (by rw [dvd_next hk hi]; exact c)⟩

/-- A simple polygon. -/
def SimpleL (l : List Pnt) : Prop := 3 ≤ l.length ∧ l.length ≤ 64 ∧ SimpleQ l.length (at_ l)
theorem per_len (l : List Pnt) (j : Int) : at_ l (j + l.length) = at_ l j := by
  have := at_per l j 1
  rwa [Int.mul_one] at this
theorem funext_at {l t : List Pnt} {f : Int → Int} (h : ∀ j, at_ t j = at_ l (f j)) : at_ t = fun j => at_ l (f j) := funext h
section
variable {l t : List Pnt}
/-- From whichever vertex on. -/
theorem turned_all {m : Nat} (h3 : 0 < l.length) (hn : t.length = l.length) (h : ∀ (i : Nat) (hi : i < t.length), t[i] = l[(i + m) % l.length]'(Nat.mod_lt _ h3)) :
    (SimpleL l → SimpleL t) ∧ (∀ p, InQ t.length (at_ t) p ↔ InQ l.length (at_ l) p) ∧ areaS t.length (at_ t) = areaS l.length (at_ l) := by
  have e : at_ t = fun j => at_ l (j + m) := funext fun j => at_turned h3 hn h j
  rw [e, hn]
  refine ⟨fun hs => ?_, fun p => InQ.shift (per_len l) m, areaS_shift (per_len l) m⟩
  unfold SimpleL
  rw [e, hn]
  exact ⟨hs.1, hs.2.1, hs.2.2.shift m⟩
/-- Turned round. -/
theorem round_all (h3 : 0 < l.length) (hn : t.length = l.length) (h : ∀ (i : Nat) (hi : i < t.length), t[i] = l[l.length - 1 - i]'(by omega)) :
    (SimpleL l → SimpleL t) ∧ (∀ p, InQ t.length (at_ t) p ↔ InQ l.length (at_ l) p) ∧ areaS t.length (at_ t) = -areaS l.length (at_ l) := by
  have e : at_ t = fun j => at_ l (-1 - j) := funext fun j => at_round h3 hn h j
  rw [e, hn]
  refine ⟨fun hs => ?_, fun p => InQ.turn (per_len l), areaS_turn (per_len l)⟩
  unfold SimpleL
  rw [e, hn]
  exact ⟨hs.1, hs.2.1, hs.2.2.turn (-1)⟩
/-- Moved. -/
theorem moved_all {d : Pnt} (h3 : 0 < l.length) (hn : t.length = l.length) (h : ∀ (i : Nat) (hi : i < t.length), t[i] = addP (l[i]'(by omega)) d) :
    (∀ p, InQ t.length (at_ t) (addP p d) ↔ InQ l.length (at_ l) p) ∧ areaS t.length (at_ t) = areaS l.length (at_ l) := by
  have e : at_ t = fun j => addP (at_ l j) d := funext fun j => at_moved h3 hn h j
  rw [e, hn]
  exact ⟨fun p => InQ.move, areaS_move (per_len l) d⟩
theorem crossP_move (a b c d v : Pnt) : crossP (addP a v) (addP b v) (addP c v) (addP d v) = crossP a b c d := by
  unfold crossP crossB touchB partB addP
  simp only [turnI_move, onB_move]
/-- .. a moved one is simple, too, if its points may be. -/
theorem moved_simple {d : Pnt} (h3 : 0 < l.length) (hn : t.length = l.length) (h : ∀ (i : Nat) (hi : i < t.length), t[i] = addP (l[i]'(by omega)) d) (hm : ∀ p ∈ t, pmay p = true) (hs : SimpleL l) : SimpleL t := by
  have e : at_ t = fun j => addP (at_ l j) d := funext fun j => at_moved h3 hn h j
  refine ⟨by rw [hn]; exact hs.1, by rw [hn]; exact hs.2.1, ?_⟩
  refine ⟨fun i => ?_, fun i k hd => ?_, fun i => ?_, fun i k a b c => ?_⟩
  · obtain ⟨r, q, hr, rfl⟩ := parts_of t.length (by omega) i
    rw [at_of r q hr]; exact hm _ (List.getElem_mem hr)
  · rw [e]
    intro hh
    rw [hn] at hd
    refine hs.2.2.own i k hd ?_
    unfold addP at hh
    simp only [Prod.mk.injEq] at hh
    exact Prod.ext (by omega) (by omega)
  · rw [e]
    show onP (addP _ d) (addP _ d) (addP _ d) = false ∧ onP (addP _ d) (addP _ d) (addP _ d) = false
    rw [onP_move, onP_move]; exact hs.2.2.next i
  · rw [e]
    show crossP (addP _ d) (addP _ d) (addP _ d) (addP _ d) = false
    rw [hn] at a b c
    rw [crossP_move]; exact hs.2.2.apart i k a b c
end
end Go.Proofs.Ytiggjaodfmelpaa.Pl
