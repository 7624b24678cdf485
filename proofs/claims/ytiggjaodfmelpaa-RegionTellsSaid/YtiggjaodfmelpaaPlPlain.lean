/-
  The plain geometry behind layer 3 (poly): no program here. Polygons as lists of points, gone round by any whole number: simple ones, what is in them, and twice their area; from whichever vertex on, turned round, and moved.
-/
import Derived.Test.YtiggjaodfmelpaaRcOfPlain
namespace Go.Proofs.Ytiggjaodfmelpaa.Pl
open Go.Proofs.Ytiggjaodfmelpaa.Pt Go.Proofs.Ytiggjaodfmelpaa.Rc

abbrev Pnt := Int × Int
def onP (a b c : Pnt) : Bool := onB a.1 a.2 b.1 b.2 c.1 c.2
def crossP (a b c d : Pnt) : Bool := crossB a.1 a.2 b.1 b.2 c.1 c.2 d.1 d.2
def turnP (a b c : Pnt) : Int := turnI a.1 a.2 b.1 b.2 c.1 c.2
theorem onP_swap (a b c : Pnt) : onP b a c = onP a b c := onB_swap ..
theorem crossP_swap (a b c d : Pnt) : crossP b a d c = crossP a b c d := by
  unfold crossP
  rw [crossB_round c.1 c.2 d.1 d.2 b.1 b.2 a.1 a.2, crossB_round]
theorem crossP_comm (a b c d : Pnt) : crossP c d b a = crossP a b c d := crossB_round ..

/-- The vertex at any whole number, gone round. -/
def at_ (l : List Pnt) (j : Int) : Pnt := l.getD (j % (l.length : Int)).toNat (0, 0)
section
variable {l : List Pnt}
theorem at_of (r : Nat) (q : Int) (h : r < l.length) : at_ l ((r : Int) + (l.length : Int) * q) = l[r] := by
  unfold at_
  rw [Int.add_mul_emod_self_left, Int.emod_eq_of_lt (by omega) (by omega), Int.toNat_natCast]
  rw [List.getD_eq_getElem?_getD, List.getElem?_eq_getElem h]; rfl
theorem at_nat {i : Nat} (h : i < l.length) : at_ l (i : Int) = l[i] := by
  have := at_of (l := l) i 0 h
  rwa [Int.mul_zero, Int.add_zero] at this
theorem at_per (l : List Pnt) (j q : Int) : at_ l (j + (l.length : Int) * q) = at_ l j := by
  unfold at_; rw [Int.add_mul_emod_self_left]
theorem at_mod (l : List Pnt) (j : Int) : at_ l (j % (l.length : Int)) = at_ l j := by
  unfold at_; rw [Int.emod_emod_of_dvd _ (Int.dvd_refl _)]
theorem at_natmod {i : Nat} (h : 0 < l.length) : at_ l (i : Int) = l[i % l.length]'(Nat.mod_lt _ h) := by
  rw [← at_mod, ← Int.natCast_emod, at_nat (Nat.mod_lt _ h)]
end

/-- The sum of the first k. -/
def sumTo (f : Int → Int) : Nat → Int
  | 0 => 0
  | k + 1 => sumTo f k + f k
theorem sumTo_succ (f : Int → Int) (k : Nat) : sumTo f (k + 1) = sumTo f k + f k := rfl
theorem sumTo_congr {f g : Int → Int} : ∀ (n : Nat), (∀ i : Nat, i < n → f i = g i) → sumTo f n = sumTo g n
  | 0, _ => rfl
  | n + 1, h => by rw [sumTo_succ, sumTo_succ, sumTo_congr n (fun i hi => h i (by omega)), h n (by omega)]
theorem sumTo_first (f : Int → Int) : ∀ n : Nat, sumTo f (n + 1) = f 0 + sumTo (fun j => f (j + 1)) n
  | 0 => by simp [sumTo]
  | n + 1 => by
    rw [sumTo_succ, sumTo_first f n, sumTo_succ]
    have : f ((n + 1 : Nat) : Int) = f ((n : Int) + 1) := by rw [Int.natCast_add]; rfl
    rw [this]; omega
/-- Of what comes again behind n, any n in a row make one sum. -/
theorem sumTo_shift1 {f : Int → Int} (n : Nat) (hp : ∀ j, f (j + n) = f j) : sumTo (fun j => f (j + 1)) n = sumTo f n := by
  have h1 := sumTo_first f n
  rw [sumTo_succ] at h1
  have h2 := hp 0
  rw [Int.zero_add] at h2
  omega
theorem sumTo_shift {f : Int → Int} (n : Nat) (hp : ∀ j, f (j + n) = f j) : ∀ m : Nat, sumTo (fun j => f (j + m)) n = sumTo f n
  | 0 => by simp
  | m + 1 => by
    have h := sumTo_shift1 (f := fun j => f (j + m)) n (fun j => by show f (j + n + m) = f (j + m); rw [show j + (n : Int) + m = j + m + n by omega, hp])
    rw [sumTo_shift n hp m] at h
    rw [← h]
    exact sumTo_congr n fun i _ => by show f _ = f _; congr 1; omega
theorem sumTo_back (f : Int → Int) : ∀ n : Nat, sumTo (fun j => f (n - 1 - j)) n = sumTo f n
  | 0 => rfl
  | n + 1 => by
    rw [sumTo_first]
    have h := sumTo_back f n
    rw [sumTo_succ, ← h]
    have e : sumTo (fun j => f (((n + 1 : Nat) : Int) - 1 - (j + 1))) n = sumTo (fun j => f ((n : Int) - 1 - j)) n := sumTo_congr n fun i _ => by show f _ = f _; congr 1; omega
    rw [e, Int.add_comm]; congr 2; omega
/-- .. and the other way round, too. -/
theorem sumTo_turn {f : Int → Int} (n : Nat) (hp : ∀ j, f (j + n) = f j) (m : Nat) : sumTo (fun j => f (m - 1 - j)) n = sumTo f n := by
  rw [← sumTo_back f n]
  have h := sumTo_shift (f := fun j => f (n - 1 - j)) n (fun j => by show f _ = f _; rw [← hp]; congr 1; omega)
  have key : ∀ d : Nat, sumTo (fun j => f (((m + d : Nat) : Int) - 1 - j)) n = sumTo (fun j => f ((m : Int) - 1 - j)) n := by
    intro d
    have g := sumTo_shift (f := fun j => f (((m + d : Nat) : Int) - 1 - j)) n (fun j => by show f _ = f _; rw [← hp]; congr 1; omega) d
    rw [← g]
    exact sumTo_congr n fun i _ => by show f _ = f _; congr 1; omega
  have key2 : ∀ d : Nat, sumTo (fun j => f (((n + d : Nat) : Int) - 1 - j)) n = sumTo (fun j => f ((n : Int) - 1 - j)) n := by
    intro d
    have g := sumTo_shift (f := fun j => f (((n + d : Nat) : Int) - 1 - j)) n (fun j => by show f _ = f _; rw [← hp]; congr 1; omega) d
    rw [← g]
    exact sumTo_congr n fun i _ => by show f _ = f _; congr 1; omega
  clear h
  rw [← key n, ← key2 m, Nat.add_comm]

theorem parts_of (n : Nat) (hn : 0 < n) (j : Int) : ∃ (r : Nat) (q : Int), r < n ∧ j = (r : Int) + (n : Int) * q := by
  have h0 : 0 ≤ j % (n : Int) := Int.emod_nonneg _ (by omega)
  have h1 : j % (n : Int) < (n : Int) := Int.emod_lt_of_pos _ (by omega)
  refine ⟨(j % (n : Int)).toNat, j / (n : Int), by omega, ?_⟩
  rw [Int.toNat_of_nonneg h0]; exact (Int.emod_add_mul_ediv j _).symm
/-- The same points from another vertex on. -/
theorem at_turned {l t : List Pnt} {m : Nat} (hl : 0 < l.length) (hn : t.length = l.length) (h : ∀ (i : Nat) (hi : i < t.length), t[i] = l[(i + m) % l.length]'(Nat.mod_lt _ hl)) (j : Int) : at_ t j = at_ l (j + m) := by
  obtain ⟨r, q, hr, rfl⟩ := parts_of l.length hl j
  have e1 : at_ t ((r : Int) + (l.length : Int) * q) = t[r]'(by omega) := by
    rw [← hn]; exact at_of r _ (by omega)
  rw [e1, h r (by omega), ← at_natmod hl, show (r : Int) + (l.length : Int) * q + (m : Int) = ((r + m : Nat) : Int) + (l.length : Int) * q by omega, at_per]
/-- .. and turned round. -/
theorem at_round {l t : List Pnt} (hl : 0 < l.length) (hn : t.length = l.length) (h : ∀ (i : Nat) (hi : i < t.length), t[i] = l[l.length - 1 - i]'(by omega)) (j : Int) : at_ t j = at_ l (-1 - j) := by
  obtain ⟨r, q, hr, rfl⟩ := parts_of l.length hl j
  have e1 : at_ t ((r : Int) + (l.length : Int) * q) = t[r]'(by omega) := by
    rw [← hn]; exact at_of r _ (by omega)
  rw [e1, h r (by omega), ← at_of (l.length - 1 - r) (-q - 1) (by omega)]
  congr 1
  rw [Int.mul_sub, Int.mul_neg, Int.mul_one]
  omega
/-- .. and moved. -/
def addP (p d : Pnt) : Pnt := (p.1 + d.1, p.2 + d.2)
theorem at_moved {l t : List Pnt} {d : Pnt} (hl : 0 < l.length) (hn : t.length = l.length) (h : ∀ (i : Nat) (hi : i < t.length), t[i] = addP (l[i]'(by omega)) d) (j : Int) : at_ t j = addP (at_ l j) d := by
  obtain ⟨r, q, hr, rfl⟩ := parts_of l.length hl j
  have e1 : at_ t ((r : Int) + (l.length : Int) * q) = t[r]'(by omega) := by
    rw [← hn]; exact at_of r _ (by omega)
  rw [e1, h r (by omega), at_of r q hr]

/-- A simple polygon, of n vertices that are gone round. -/
structure SimpleQ (n : Int) (P : Int → Pnt) : Prop where
  may : ∀ i, pmay (P i) = true
  own : ∀ i k, ¬ n ∣ (i - k) → P i ≠ P k
  next : ∀ i, onP (P i) (P (i + 1)) (P (i + 2)) = false ∧ onP (P (i + 1)) (P (i + 2)) (P i) = false
  apart : ∀ i k, ¬ n ∣ (k - i) → ¬ n ∣ (k - i - 1) → ¬ n ∣ (i - k - 1) → crossP (P i) (P (i + 1)) (P k) (P (k + 1)) = false
theorem SimpleQ.shift {n : Int} {P : Int → Pnt} (h : SimpleQ n P) (m : Int) : SimpleQ n (fun j => P (j + m)) where
  may i := h.may _
  own i k hd := h.own _ _ (by rwa [show i + m - (k + m) = i - k by omega])
  next i := by
    have := h.next (i + m)
    show onP (P (i + m)) (P (i + 1 + m)) (P (i + 2 + m)) = false ∧ onP (P (i + 1 + m)) (P (i + 2 + m)) (P (i + m)) = false
    rwa [show i + 1 + m = i + m + 1 by omega, show i + 2 + m = i + m + 2 by omega]
  apart i k a b c := by
    have := h.apart (i + m) (k + m) (by rwa [show k + m - (i + m) = k - i by omega]) (by rwa [show k + m - (i + m) - 1 = k - i - 1 by omega]) (by rwa [show i + m - (k + m) - 1 = i - k - 1 by omega])
    show crossP (P (i + m)) (P (i + 1 + m)) (P (k + m)) (P (k + 1 + m)) = false
    rwa [show i + 1 + m = i + m + 1 by omega, show k + 1 + m = k + m + 1 by omega]
theorem SimpleQ.turn {n : Int} {P : Int → Pnt} (h : SimpleQ n P) (m : Int) : SimpleQ n (fun j => P (m - j)) where
  may i := h.may _
  own i k hd := h.own _ _ (by rw [show m - i - (m - k) = -(i - k) by omega, Int.dvd_neg]; exact hd)
  next i := by
    have := h.next (m - i - 2)
    show onP (P (m - i)) (P (m - (i + 1))) (P (m - (i + 2))) = false ∧ onP (P (m - (i + 1))) (P (m - (i + 2))) (P (m - i)) = false
    rw [show m - i - 2 + 1 = m - (i + 1) by omega, show m - i - 2 + 2 = m - i by omega, show m - i - 2 = m - (i + 2) by omega] at this
    exact ⟨by rw [onP_swap]; exact this.2, by rw [onP_swap]; exact this.1⟩
  apart i k a b c := by
    have := h.apart (m - (i + 1)) (m - (k + 1)) (by rw [show m - (k + 1) - (m - (i + 1)) = -(k - i) by omega, Int.dvd_neg]; exact a) (by rw [show m - (k + 1) - (m - (i + 1)) - 1 = i - k - 1 by omega]; exact c) (by rw [show m - (i + 1) - (m - (k + 1)) - 1 = k - i - 1 by omega]; exact b)
    show crossP (P (m - i)) (P (m - (i + 1))) (P (m - k)) (P (m - (k + 1))) = false
    rw [show m - (i + 1) + 1 = m - i by omega, show m - (k + 1) + 1 = m - k by omega] at this
    rw [← crossP_swap]; exact this

/-- Does a ray from p to the right cross this edge? -/
def upB (a b p : Pnt) : Bool := decide (a.2 ≤ p.2) && (decide (p.2 < b.2) && (turnP a b p == 1))
def rayB (a b p : Pnt) : Bool := if b.2 < a.2 then upB b a p else upB a b p
theorem rayB_swap (a b p : Pnt) : rayB b a p = rayB a b p := by
  unfold rayB
  by_cases h1 : b.2 < a.2
  · rw [if_neg (by omega), if_pos h1]
  · by_cases h2 : a.2 < b.2
    · rw [if_pos h2, if_neg h1]
    · have e : a.2 = b.2 := by omega
      rw [if_neg h2, if_neg h1]
      unfold upB
      rw [e]
      by_cases h3 : b.2 ≤ p.2
      · rw [show decide (p.2 < b.2) = false by simp; omega]; simp
      · rw [show decide (b.2 ≤ p.2) = false by simp; omega]; simp
def rayI (a b p : Pnt) : Int := if rayB a b p then 1 else 0
theorem rayI_swap (a b p : Pnt) : rayI b a p = rayI a b p := by unfold rayI; rw [rayB_swap]
/-- On an edge; how many edges a ray crosses; in it. -/
def OnSome (P : Int → Pnt) (p : Pnt) : Prop := ∃ i : Int, onP (P i) (P (i + 1)) p = true
def rays (n : Nat) (P : Int → Pnt) (p : Pnt) : Int := sumTo (fun i => rayI (P i) (P (i + 1)) p) n
def InQ (n : Nat) (P : Int → Pnt) (p : Pnt) : Prop := OnSome P p ∨ rays n P p % 2 = 1
theorem OnSome.shift {P : Int → Pnt} {p : Pnt} (m : Int) : OnSome (fun j => P (j + m)) p ↔ OnSome P p := by
  constructor
  · rintro ⟨i, h⟩
    exact ⟨i + m, by rw [show i + m + 1 = i + 1 + m by omega]; exact h⟩
  · rintro ⟨i, h⟩
    exact ⟨i - m, by show onP (P (i - m + m)) (P (i - m + 1 + m)) p = true; rw [show i - m + m = i by omega, show i - m + 1 + m = i + 1 by omega]; exact h⟩
theorem OnSome.turn {P : Int → Pnt} {p : Pnt} (m : Int) : OnSome (fun j => P (m - j)) p ↔ OnSome P p := by
  constructor
  · rintro ⟨i, h⟩
    exact ⟨m - (i + 1), by rw [onP_swap, show m - (i + 1) + 1 = m - i by omega] ; exact h⟩
  · rintro ⟨i, h⟩
    exact ⟨m - (i + 1), by show onP (P (m - (m - (i + 1)))) (P (m - (m - (i + 1) + 1))) p = true; rw [onP_swap, show m - (m - (i + 1)) = i + 1 by omega, show m - (m - (i + 1) + 1) = i by omega]; exact h⟩
theorem rays_shift {n : Nat} {P : Int → Pnt} {p : Pnt} (hp : ∀ j, P (j + n) = P j) (m : Nat) : rays n (fun j => P (j + m)) p = rays n P p := by
  have := sumTo_shift (f := fun i => rayI (P i) (P (i + 1)) p) n (fun j => by show rayI (P (j + n)) (P (j + n + 1)) p = _; rw [hp, show j + (n : Int) + 1 = j + 1 + n by omega, hp]) m
  unfold rays
  rw [← this]
  exact sumTo_congr n fun i _ => by show rayI (P (i + m)) (P (i + 1 + m)) p = rayI (P (i + m)) (P (i + m + 1)) p; rw [show (i : Int) + 1 + m = i + m + 1 by omega]
theorem rays_turn {n : Nat} {P : Int → Pnt} {p : Pnt} (hp : ∀ j, P (j + n) = P j) : rays n (fun j => P (-1 - j)) p = rays n P p := by
  have hf : ∀ j, (fun i => rayI (P i) (P (i + 1)) p) (j + n) = (fun i => rayI (P i) (P (i + 1)) p) j := fun j => by show rayI (P (j + n)) (P (j + n + 1)) p = rayI (P j) (P (j + 1)) p; rw [hp, show j + (n : Int) + 1 = j + 1 + n by omega, hp]
  have h1 := sumTo_back (fun i => rayI (P i) (P (i + 1)) p) n
  have h2 := sumTo_shift (f := fun j => rayI (P (n - 1 - j)) (P (n - 1 - j + 1)) p) n (fun j => by show rayI (P (n - 1 - (j + n))) (P (n - 1 - (j + n) + 1)) p = _; rw [← hp, ← hp (n - 1 - (j + n) + 1), show (n : Int) - 1 - (j + n) + n = n - 1 - j by omega, show (n : Int) - 1 - (j + n) + 1 + n = n - 1 - j + 1 by omega]) 1
  unfold rays
  rw [← h1, ← h2]
  refine sumTo_congr n fun i _ => ?_
  show rayI (P (-1 - i)) (P (-1 - (i + 1))) p = rayI (P (n - 1 - (i + (1 : Nat)))) (P (n - 1 - (i + (1 : Nat)) + 1)) p
  rw [rayI_swap, ← hp (-1 - (i + 1)), ← hp (-1 - i)]
  congr 2 <;> omega
theorem InQ.shift {n : Nat} {P : Int → Pnt} {p : Pnt} (hp : ∀ j, P (j + n) = P j) (m : Nat) : InQ n (fun j => P (j + m)) p ↔ InQ n P p := by
  unfold InQ; rw [OnSome.shift, rays_shift hp]
theorem InQ.turn {n : Nat} {P : Int → Pnt} {p : Pnt} (hp : ∀ j, P (j + n) = P j) : InQ n (fun j => P (-1 - j)) p ↔ InQ n P p := by
  unfold InQ; rw [OnSome.turn, rays_turn hp]
theorem onP_move (a b c d : Pnt) : onP (addP a d) (addP b d) (addP c d) = onP a b c := onB_move ..
theorem rayI_move (a b p d : Pnt) : rayI (addP a d) (addP b d) (addP p d) = rayI a b p := by
  have up : ∀ a b : Pnt, upB (addP a d) (addP b d) (addP p d) = upB a b p := fun a b => by
    unfold upB turnP addP
    rw [turnI_move, show decide (a.2 + d.2 ≤ p.2 + d.2) = decide (a.2 ≤ p.2) by apply decide_eq_decide.2; omega, show decide (p.2 + d.2 < b.2 + d.2) = decide (p.2 < b.2) by apply decide_eq_decide.2; omega]
  unfold rayI rayB
  rw [up, up]
  by_cases h : b.2 < a.2
  · rw [if_pos h, if_pos (show (addP b d).2 < (addP a d).2 by show b.2 + d.2 < a.2 + d.2; omega)]
  · rw [if_neg h, if_neg (show ¬ (addP b d).2 < (addP a d).2 by show ¬ b.2 + d.2 < a.2 + d.2; omega)]
theorem InQ.move {n : Nat} {P : Int → Pnt} {p d : Pnt} : InQ n (fun j => addP (P j) d) (addP p d) ↔ InQ n P p := by
  unfold InQ OnSome rays
  have e : sumTo (fun i => rayI (addP (P i) d) (addP (P (i + 1)) d) (addP p d)) n = sumTo (fun i => rayI (P i) (P (i + 1)) p) n := sumTo_congr n fun i _ => rayI_move ..
  rw [e]
  simp only [onP_move]
/-- Each vertex is in it. -/
theorem InQ.vertex (n : Nat) (P : Int → Pnt) (i : Int) : InQ n P (P i) := Or.inl ⟨i, onB_left ..⟩
end Go.Proofs.Ytiggjaodfmelpaa.Pl
