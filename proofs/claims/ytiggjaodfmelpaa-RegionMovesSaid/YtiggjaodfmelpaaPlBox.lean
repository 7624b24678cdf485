/-
  The plain geometry behind layer 3 (poly), its second part: what is in a polygon is in its rectangle; twice the area, from whichever vertex on, turned round, and moved. No program here.
-/
import Derived.Test.YtiggjaodfmelpaaPlPlain
namespace Go.Proofs.Ytiggjaodfmelpaa.Pl
open Go.Proofs.Ytiggjaodfmelpaa.Pt Go.Proofs.Ytiggjaodfmelpaa.Rc

theorem turn_right {ax ay bx b2 cx cy : Int} (h1 : ay ≤ cy) (h2 : cy < b2) (h3 : ax < cx) (h4 : bx < cx) : turnI ax ay bx b2 cx cy ≠ 1 := by
  unfold turnI
  have key : (bx - ax) * (cy - ay) ≤ (b2 - ay) * (cx - ax) := by
    by_cases h : bx - ax ≤ 0
    · have a1 : (bx - ax) * (cy - ay) ≤ 0 := Int.mul_nonpos_of_nonpos_of_nonneg h (by omega)
      have a2 : 0 ≤ (b2 - ay) * (cx - ax) := Int.mul_nonneg (by omega) (by omega)
      omega
    · rw [Int.mul_comm (b2 - ay)]
      exact Int.mul_le_mul (by omega) (by omega) (by omega) (by omega)
  intro e
  unfold sgn at e
  rw [if_neg (by omega)] at e
  split at e <;> omega
theorem turn_left {ax ay bx b2 cx cy : Int} (h1 : ay ≤ cy) (h2 : cy < b2) (h3 : cx < ax) (h4 : cx < bx) : turnI ax ay bx b2 cx cy = 1 := by
  unfold turnI
  apply sgn_gt
  by_cases h : 0 ≤ bx - ax
  · have a1 : 0 ≤ (bx - ax) * (cy - ay) := Int.mul_nonneg h (by omega)
    have a2 : (b2 - ay) * (cx - ax) < 0 := Int.mul_neg_of_pos_of_neg (by omega) (by omega)
    omega
  · have a1 : (b2 - ay) * (cx - ax) < (b2 - ay) * (bx - ax) := Int.mul_lt_mul_of_pos_left (by omega) (by omega)
    have a2 : (b2 - ay) * (bx - ax) ≤ (cy - ay) * (bx - ax) := Int.mul_le_mul_of_nonpos_right (by omega) (by omega)
    rw [Int.mul_comm (bx - ax)]
    omega
theorem rayI_01 (a b p : Pnt) : rayI a b p = 0 ∨ rayI a b p = 1 := by unfold rayI; split <;> simp
theorem rayI_none {a b p : Pnt} (h : ∀ u v : Pnt, (u = a ∧ v = b) ∨ (u = b ∧ v = a) → upB u v p = false) : rayI a b p = 0 := by
  unfold rayI rayB
  by_cases h1 : b.2 < a.2
  · rw [if_pos h1, h b a (Or.inr ⟨rfl, rfl⟩)]; rfl
  · rw [if_neg h1, h a b (Or.inl ⟨rfl, rfl⟩)]; rfl
theorem upB_no {a b p : Pnt} (h : a.2 ≤ p.2 → p.2 < b.2 → turnP a b p ≠ 1) : upB a b p = false := by
  rw [← Bool.not_eq_true]
  unfold upB
  simp only [Bool.and_eq_true, decide_eq_true_eq, beq_iff_eq]
  rintro ⟨h1, h2, h3⟩
  exact h h1 h2 h3
theorem sumTo_zero {f : Int → Int} : ∀ n : Nat, (∀ i : Int, f i = 0) → sumTo f n = 0
  | 0, _ => rfl
  | n + 1, h => by rw [sumTo_succ, sumTo_zero n h, h]; rfl
/-- Does a vertex lie on the ray's line, or below it? -/
def lowI (p a : Pnt) : Int := if a.2 ≤ p.2 then 1 else 0
theorem rayI_left {a b p : Pnt} (h1 : p.1 < a.1) (h2 : p.1 < b.1) : ∃ c : Int, rayI a b p = lowI p b - lowI p a + 2 * c := by
  unfold rayI rayB lowI
  by_cases h : b.2 < a.2
  · rw [if_pos h]
    by_cases h3 : b.2 ≤ p.2
    · by_cases h4 : p.2 < a.2
      · rw [show upB b a p = true by unfold upB; simp [h3, h4]; exact turn_left h3 h4 h2 h1, if_pos rfl, if_pos h3, if_neg (by omega)]
        exact ⟨0, by omega⟩
      · rw [show upB b a p = false from upB_no fun _ _ => by omega, if_neg (by simp), if_pos h3, if_pos (by omega)]
        exact ⟨0, by omega⟩
    · rw [show upB b a p = false from upB_no fun _ _ => by omega, if_neg (by simp), if_neg h3, if_neg (by omega)]
      exact ⟨0, by omega⟩
  · rw [if_neg h]
    by_cases h3 : a.2 ≤ p.2
    · by_cases h4 : p.2 < b.2
      · rw [show upB a b p = true by unfold upB; simp [h3, h4]; exact turn_left h3 h4 h1 h2, if_pos rfl, if_pos h3, if_neg (by omega)]
        exact ⟨1, by omega⟩
      · rw [show upB a b p = false from upB_no fun _ _ => by omega, if_neg (by simp), if_pos h3, if_pos (by omega)]
        exact ⟨0, by omega⟩
    · rw [show upB a b p = false from upB_no fun _ _ => by omega, if_neg (by simp), if_neg h3, if_neg (by omega)]
      exact ⟨0, by omega⟩
theorem rays_left {P : Int → Pnt} {p : Pnt} (h : ∀ i, p.1 < (P i).1) : ∀ n : Nat, ∃ c : Int, rays n P p = lowI p (P n) - lowI p (P 0) + 2 * c
  | 0 => ⟨0, by simp [rays, sumTo]⟩
  | n + 1 => by
    obtain ⟨c, hc⟩ := rays_left h n
    obtain ⟨c', hc'⟩ := rayI_left (p := p) (h n) (h (n + 1))
    refine ⟨c + c', ?_⟩
    have : rays (n + 1) P p = rays n P p + rayI (P n) (P (n + 1)) p := rfl
    rw [this, hc, hc', show ((n + 1 : Nat) : Int) = (n : Int) + 1 by omega]
    omega
/-- What is in it is in each rectangle that has all vertices. -/
theorem InQ.box {n : Nat} {P : Int → Pnt} {p : Pnt} (hp : ∀ j, P (j + n) = P j) {x1 y1 x2 y2 : Int} (hb : ∀ i, x1 ≤ (P i).1 ∧ (P i).1 ≤ x2 ∧ y1 ≤ (P i).2 ∧ (P i).2 ≤ y2) (h : InQ n P p) :
    x1 ≤ p.1 ∧ p.1 ≤ x2 ∧ y1 ≤ p.2 ∧ p.2 ≤ y2 := by
  rcases h with ⟨i, h⟩ | h
  · have h1 := hb i
    have h2 := hb (i + 1)
    unfold onP onB boxB at h
    rw [Bool.and_eq_true, Bool.and_eq_true, btw_iff, btw_iff] at h
    omega
  · have no : ∀ (hz : ∀ i, rayI (P i) (P (i + 1)) p = 0), False := fun hz => by
      have : rays n P p = 0 := sumTo_zero n hz
      omega
    refine ⟨?_, ?_, ?_, ?_⟩ <;> apply Classical.byContradiction <;> intro hc
    · obtain ⟨c, e⟩ := rays_left (P := P) (p := p) (fun i => by have := hb i; omega) n
      have e0 := hp 0
      rw [Int.zero_add] at e0
      rw [e0] at e
      omega
    · exact no fun i => rayI_none fun u v huv => upB_no fun h1 h2 => by
        have := hb i; have := hb (i + 1)
        rcases huv with ⟨rfl, rfl⟩ | ⟨rfl, rfl⟩ <;> exact turn_right h1 h2 (by omega) (by omega)
    · exact no fun i => rayI_none fun u v huv => upB_no fun h1 h2 => by
        have := hb i; have := hb (i + 1)
        rcases huv with ⟨rfl, rfl⟩ | ⟨rfl, rfl⟩ <;> omega
    · exact no fun i => rayI_none fun u v huv => upB_no fun h1 h2 => by
        have := hb i; have := hb (i + 1)
        rcases huv with ⟨rfl, rfl⟩ | ⟨rfl, rfl⟩ <;> omega

/-- Twice the area, with its sign, and as a number of 64 bits. -/
def crs (a b : Pnt) : Int := (a.1 + 1073741824) * (b.2 + 1073741824) - (a.2 + 1073741824) * (b.1 + 1073741824)
def areaS (n : Nat) (P : Int → Pnt) : Int := sumTo (fun i => crs (P i) (P (i + 1))) n
def twiceI (s : Int) : Int := if 9223372036854775808 < s % 18446744073709551616 then 18446744073709551616 - s % 18446744073709551616 else s % 18446744073709551616
theorem twiceI_neg (s : Int) : twiceI (-s) = twiceI s := by unfold twiceI; split <;> split <;> omega
theorem crs_swap (a b : Pnt) : crs b a = -crs a b := by
  unfold crs
  rw [Int.mul_comm (b.1 + _), Int.mul_comm (b.2 + _)]; omega
theorem sumTo_neg (f : Int → Int) : ∀ n : Nat, sumTo (fun i => -f i) n = -sumTo f n
  | 0 => rfl
  | n + 1 => by rw [sumTo_succ, sumTo_succ, sumTo_neg f n]; omega
theorem sumTo_add (f g : Int → Int) : ∀ n : Nat, sumTo (fun i => f i + g i) n = sumTo f n + sumTo g n
  | 0 => rfl
  | n + 1 => by rw [sumTo_succ, sumTo_succ, sumTo_succ, sumTo_add f g n]; omega
theorem sumTo_tele (g : Int → Int) : ∀ n : Nat, sumTo (fun i => g (i + 1) - g i) n = g n - g 0
  | 0 => by simp [sumTo]
  | n + 1 => by rw [sumTo_succ, sumTo_tele g n, show ((n + 1 : Nat) : Int) = (n : Int) + 1 by omega]; omega
theorem areaS_shift {n : Nat} {P : Int → Pnt} (hp : ∀ j, P (j + n) = P j) (m : Nat) : areaS n (fun j => P (j + m)) = areaS n P := by
  have := sumTo_shift (f := fun i => crs (P i) (P (i + 1))) n (fun j => by show crs (P (j + n)) (P (j + n + 1)) = _; rw [hp, show j + (n : Int) + 1 = j + 1 + n by omega, hp]) m
  unfold areaS
  rw [← this]
  exact sumTo_congr n fun i _ => by show crs (P (i + m)) (P (i + 1 + m)) = crs (P (i + m)) (P (i + m + 1)); rw [show (i : Int) + 1 + m = i + m + 1 by omega]
theorem areaS_turn {n : Nat} {P : Int → Pnt} (hp : ∀ j, P (j + n) = P j) : areaS n (fun j => P (-1 - j)) = -areaS n P := by
  have h1 := sumTo_back (fun i => crs (P i) (P (i + 1))) n
  have h2 := sumTo_shift (f := fun j => crs (P (n - 1 - j)) (P (n - 1 - j + 1))) n (fun j => by show crs (P (n - 1 - (j + n))) (P (n - 1 - (j + n) + 1)) = _; rw [← hp, ← hp (n - 1 - (j + n) + 1), show (n : Int) - 1 - (j + n) + n = n - 1 - j by omega, show (n : Int) - 1 - (j + n) + 1 + n = n - 1 - j + 1 by omega]) 1
  unfold areaS
  rw [← h1, ← h2, ← sumTo_neg]
  refine sumTo_congr n fun i _ => ?_
  show crs (P (-1 - i)) (P (-1 - (i + 1))) = -crs (P (n - 1 - (i + (1 : Nat)))) (P (n - 1 - (i + (1 : Nat)) + 1))
  rw [← crs_swap, ← hp (-1 - (i + 1)), ← hp (-1 - i)]
  congr 2 <;> omega
theorem crs_move (a b d : Pnt) : crs (addP a d) (addP b d) = crs a b + ((d.1 * (b.2 + 1073741824) - d.2 * (b.1 + 1073741824)) - (d.1 * (a.2 + 1073741824) - d.2 * (a.1 + 1073741824))) := by
  unfold crs addP
  show (a.1 + d.1 + 1073741824) * (b.2 + d.2 + 1073741824) - (a.2 + d.2 + 1073741824) * (b.1 + d.1 + 1073741824) = _
  have e1 : (a.1 + d.1 + 1073741824) * (b.2 + d.2 + 1073741824) = (a.1 + 1073741824) * (b.2 + 1073741824) + d.1 * (b.2 + 1073741824) + (a.1 + 1073741824) * d.2 + d.1 * d.2 := by
    rw [show a.1 + d.1 + 1073741824 = a.1 + 1073741824 + d.1 by omega, show b.2 + d.2 + 1073741824 = b.2 + 1073741824 + d.2 by omega, Int.add_mul, Int.mul_add, Int.mul_add d.1]; omega
  have e2 : (a.2 + d.2 + 1073741824) * (b.1 + d.1 + 1073741824) = (a.2 + 1073741824) * (b.1 + 1073741824) + d.2 * (b.1 + 1073741824) + (a.2 + 1073741824) * d.1 + d.2 * d.1 := by
    rw [show a.2 + d.2 + 1073741824 = a.2 + 1073741824 + d.2 by omega, show b.1 + d.1 + 1073741824 = b.1 + 1073741824 + d.1 by omega, Int.add_mul, Int.mul_add, Int.mul_add d.2]; omega
  rw [e1, e2, Int.mul_comm d.2 d.1, Int.mul_comm (a.1 + 1073741824) d.2, Int.mul_comm (a.2 + 1073741824) d.1]
  omega
theorem areaS_move {n : Nat} {P : Int → Pnt} (hp : ∀ j, P (j + n) = P j) (d : Pnt) : areaS n (fun j => addP (P j) d) = areaS n P := by
  have e0 := hp 0
  rw [Int.zero_add] at e0
  have h := sumTo_tele (fun i => d.1 * ((P i).2 + 1073741824) - d.2 * ((P i).1 + 1073741824)) n
  rw [e0, Int.sub_self] at h
  unfold areaS
  have e : sumTo (fun i => crs (addP (P i) d) (addP (P (i + 1)) d)) n = sumTo (fun i => crs (P i) (P (i + 1)) + ((d.1 * ((P (i + 1)).2 + 1073741824) - d.2 * ((P (i + 1)).1 + 1073741824)) - (d.1 * ((P i).2 + 1073741824) - d.2 * ((P i).1 + 1073741824)))) n := sumTo_congr n fun i _ => crs_move ..
  rw [e, sumTo_add, h, Int.add_zero]
end Go.Proofs.Ytiggjaodfmelpaa.Pl
