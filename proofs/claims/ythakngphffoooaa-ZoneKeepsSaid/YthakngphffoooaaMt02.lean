/-
  Cells that are known stay known behind whatever only makes memory: lists of two to eight cells, at any addresses. No program here.
-/
import Derived.Test.YthakngphffoooaaMt01
import Derived.WalkKit
import Derived.WalkSpells
import Derived.Below
import Derived.Lib.Hide
/-
  The plain geometry behind layer 3 (poly), its fourth part: what the code's and the document's loops find, as tests on lists, and that they come to the same. No program here.
-/
namespace Go.Proofs.Ythakngphffoooaa.Pl
open Go.Proofs.Ythakngphffoooaa.Pt Go.Proofs.Ythakngphffoooaa.Rc

/-- Is there one among the first k? -/
def anyTo (f : Nat → Bool) : Nat → Bool
  | 0 => false
  | k + 1 => anyTo f k || f k
theorem anyTo_no {f : Nat → Bool} : ∀ {n : Nat}, anyTo f n = false ↔ ∀ i, i < n → f i = false
  | 0 => by simp [anyTo]
  | n + 1 => by
    rw [anyTo, Bool.or_eq_false_iff, anyTo_no]
    constructor
    · rintro ⟨h1, h2⟩ i hi
      rcases Nat.lt_or_ge i n with h | h
      · exact h1 i h
      · obtain rfl : i = n := by omega
        exact h2
    · exact fun h => ⟨fun i hi => h i (by omega), h n (by omega)⟩
theorem anyTo_yes {f : Nat → Bool} {n i : Nat} (h : i < n) (hf : f i = true) : anyTo f n = true := by
  rw [← Bool.not_eq_false, anyTo_no]
  intro hh
  rw [hh i h] at hf
  cases hf
theorem anyTo_next {f : Nat → Bool} {k : Nat} (h : anyTo f k = false) (hf : f k = false) : anyTo f (k + 1) = false := by rw [anyTo, h, hf]; rfl
theorem anyTo_ex {f : Nat → Bool} {n : Nat} : anyTo f n = true ↔ ∃ i, i < n ∧ f i = true := by
  constructor
  · intro h
    apply Classical.byContradiction
    intro hc
    have : anyTo f n = false := anyTo_no.2 fun i hi => by
      rw [← Bool.not_eq_true]
      exact fun hf => hc ⟨i, hi, hf⟩
    rw [this] at h
    cases h
  · rintro ⟨i, hi, hf⟩
    exact anyTo_yes hi hf

/-- Do the edges at i and behind it turn back? -/
def turnF (l : List Pnt) (i : Nat) : Bool := onP (at_ l i) (at_ l ((i : Int) + 1)) (at_ l ((i : Int) + 2)) || onP (at_ l ((i : Int) + 1)) (at_ l ((i : Int) + 2)) (at_ l i)
def turnsB (l : List Pnt) : Bool := anyTo (turnF l) l.length
def crossE (l : List Pnt) (i k : Nat) : Bool := crossP (at_ l i) (at_ l ((i : Int) + 1)) (at_ l k) (at_ l ((k : Int) + 1))
def meetF (l : List Pnt) (i j : Nat) : Bool := decide (i + 2 ≤ j) && (!(decide (i = (j + 1) % l.length)) && crossE l i j)
def meetsB (l : List Pnt) : Bool := anyTo (fun i => anyTo (meetF l i) l.length) l.length
/-- The code's test. -/
def simpleB (l : List Pnt) : Bool := decide (3 ≤ l.length) && (decide (l.length ≤ 64) && (l.all pmay && (!turnsB l && !meetsB l)))
/-- The document's test. -/
def sameF (l : List Pnt) (i k : Nat) : Bool := decide (at_ l i = at_ l k)
def ownF (l : List Pnt) (i : Nat) : Bool := !pmay (at_ l i) || anyTo (sameF l i) i
def apartF (l : List Pnt) (i k : Nat) : Bool := !(decide (k = i) || (decide (k = (i + 1) % l.length) || decide (i = (k + 1) % l.length))) && crossE l i k
def edgeF (l : List Pnt) (i : Nat) : Bool := turnF l i || anyTo (apartF l i) l.length
def simpleR (l : List Pnt) : Bool := decide (3 ≤ l.length) && (decide (l.length ≤ 64) && (!anyTo (ownF l) l.length && !anyTo (edgeF l) l.length))

theorem ownF_no {l : List Pnt} {i : Nat} : ownF l i = false ↔ OwnL l i := by
  unfold ownF OwnL sameF
  rw [Bool.or_eq_false_iff, anyTo_no]
  simp
theorem turnF_no {l : List Pnt} {i : Nat} : turnF l i = false ↔ onP (at_ l i) (at_ l (i + 1)) (at_ l (i + 2)) = false ∧ onP (at_ l (i + 1)) (at_ l (i + 2)) (at_ l i) = false := by
  unfold turnF; rw [Bool.or_eq_false_iff]
theorem apartF_no {l : List Pnt} {i k : Nat} : apartF l i k = false ↔ (k ≠ i → k ≠ (i + 1) % l.length → i ≠ (k + 1) % l.length → crossP (at_ l i) (at_ l (i + 1)) (at_ l k) (at_ l (k + 1)) = false) := by
  unfold apartF crossE
  rw [Bool.and_eq_false_iff]
  by_cases h1 : k = i
  · simp [h1]
  by_cases h2 : k = (i + 1) % l.length
  · rw [decide_eq_true h2]; simp [h2]
  by_cases h3 : i = (k + 1) % l.length
  · rw [decide_eq_true h3]; simp [← h3]
  · rw [decide_eq_false h1, decide_eq_false h2, decide_eq_false h3]; simp [h1, h2, h3]
theorem edgeF_no {l : List Pnt} {i : Nat} : edgeF l i = false ↔ EdgeL l i := by
  unfold edgeF EdgeL
  rw [Bool.or_eq_false_iff, turnF_no, anyTo_no]
  simp only [apartF_no]
  constructor
  · rintro ⟨⟨a, b⟩, c⟩
    exact ⟨a, b, c⟩
  · rintro ⟨a, b, c⟩
    exact ⟨⟨a, b⟩, c⟩
theorem simpleR_iff {l : List Pnt} : simpleR l = true ↔ SimpleL l := by
  unfold simpleR SimpleL
  rw [Bool.and_eq_true, Bool.and_eq_true, Bool.and_eq_true, decide_eq_true_iff, decide_eq_true_iff, Bool.not_eq_true', Bool.not_eq_true', anyTo_no, anyTo_no]
  simp only [ownF_no, edgeF_no]
  constructor
  · rintro ⟨a, b, c, d⟩
    exact ⟨a, b, simpleQ_of (by omega) c d⟩
  · rintro ⟨a, b, c⟩
    exact ⟨a, b, fun i hi => c.ownL hi, fun i hi => c.edgeL hi⟩

theorem onP_left (a b : Pnt) : onP a b a = true := onB_left ..
theorem crossP_sym (a b c d : Pnt) : crossP c d a b = crossP a b c d := by
  unfold crossP crossB touchB
  generalize partB c.1 c.2 d.1 d.2 a.1 a.2 b.1 b.2 = p
  generalize partB a.1 a.2 b.1 b.2 c.1 c.2 d.1 d.2 = q
  generalize onB a.1 a.2 b.1 b.2 c.1 c.2 = r; generalize onB a.1 a.2 b.1 b.2 d.1 d.2 = s; generalize onB c.1 c.2 d.1 d.2 a.1 a.2 = t; generalize onB c.1 c.2 d.1 d.2 b.1 b.2 = u
  cases p <;> cases q <;> cases r <;> cases s <;> cases t <;> cases u <;> rfl
theorem crossP_same (a b d : Pnt) : crossP a b a d = true := by
  have : onB a.1 a.2 b.1 b.2 a.1 a.2 = true := onB_left ..
  unfold crossP crossB touchB
  rw [this]; simp
theorem meetF_no {l : List Pnt} {i j : Nat} : meetF l i j = false ↔ (i + 2 ≤ j → i ≠ (j + 1) % l.length → crossP (at_ l i) (at_ l (i + 1)) (at_ l j) (at_ l (j + 1)) = false) := by
  unfold meetF crossE
  by_cases h1 : i + 2 ≤ j
  · by_cases h3 : i = (j + 1) % l.length
    · rw [decide_eq_true h3]; simp [← h3]
    · rw [decide_eq_false h3]; simp [h1, h3]
  · simp [h1]
theorem all_at {l : List Pnt} (h : l.all pmay = true) {i : Nat} (hi : i < l.length) : pmay (at_ l i) = true := by
  rw [at_nat hi]; exact List.all_eq_true.1 h _ (List.getElem_mem hi)
theorem all_any {l : List Pnt} (h : l.all pmay = true) (h0 : 0 < l.length) (i : Int) : pmay (at_ l i) = true := by
  obtain ⟨r, q, hr, rfl⟩ := parts_of l.length h0 i
  rw [at_per]; exact all_at h hr
theorem simpleB_iff {l : List Pnt} : simpleB l = true ↔ SimpleL l := by
  unfold simpleB
  rw [Bool.and_eq_true, Bool.and_eq_true, Bool.and_eq_true, Bool.and_eq_true, decide_eq_true_iff, decide_eq_true_iff, Bool.not_eq_true', Bool.not_eq_true']
  unfold turnsB meetsB
  rw [anyTo_no, anyTo_no]
  simp only [turnF_no, anyTo_no, meetF_no]
  constructor
  · rintro ⟨h3, h64, hm, ht, hc⟩
    refine ⟨h3, h64, simpleQ_of (by omega) (fun i hi => ⟨all_at hm hi, fun k hk e => ?_⟩) (fun i hi => ⟨(ht i hi).1, (ht i hi).2, fun k hk a b c => ?_⟩)⟩
    · by_cases h1 : i = k + 1
      · have h := (ht k (by omega)).2
        subst h1
        rw [show at_ l ((k : Int) + 1) = at_ l k by rw [← e]; rfl, onP_left] at h
        cases h
      · by_cases h2 : k = (i + 1) % l.length
        · have h := (ht i hi).2
          have e2 : at_ l ((i : Int) + 1) = at_ l k := by
            rw [h2, at_nat (Nat.mod_lt _ (by omega)), show ((i : Int) + 1) = ((i + 1 : Nat) : Int) by omega, at_natmod (by omega)]
          rw [e2, e, onP_left] at h
          cases h
        · have h := hc k (by omega) i hi (by omega) h2
          rw [e, crossP_same] at h
          cases h
    · rcases Nat.lt_trichotomy k i with h | h | h
      · rw [Nat.mod_eq_of_lt (show k + 1 < l.length by omega)] at c
        rw [crossP_sym]
        exact hc k hk i hi (by omega) b
      · omega
      · rw [Nat.mod_eq_of_lt (show i + 1 < l.length by omega)] at b
        exact hc i hi k hk (by omega) c
  · rintro ⟨h3, h64, hs⟩
    refine ⟨h3, h64, ?_, fun i hi => ⟨(hs.edgeL hi).1, (hs.edgeL hi).2.1⟩, fun i hi j hj h2 h4 => ?_⟩
    · rw [List.all_eq_true]
      intro p hp
      obtain ⟨i, hi, rfl⟩ := List.getElem_of_mem hp
      rw [← at_nat hi]; exact hs.may i
    · exact (hs.edgeL hi).2.2 j hj (by omega) (by rw [Nat.mod_eq_of_lt (show i + 1 < l.length by omega)]; omega) h4
theorem simpleR_eq (l : List Pnt) : simpleR l = simpleB l := by rw [Bool.eq_iff_iff, simpleR_iff, simpleB_iff]
theorem simpleB_all {l : List Pnt} (h : simpleB l = true) : l.all pmay = true ∧ 3 ≤ l.length ∧ l.length ≤ 64 := by
  unfold simpleB at h
  rw [Bool.and_eq_true, Bool.and_eq_true, Bool.and_eq_true, decide_eq_true_iff, decide_eq_true_iff] at h
  exact ⟨h.2.2.1, h.1, h.2.1⟩

/-- On an edge; in it. -/
def onF (l : List Pnt) (p : Pnt) (i : Nat) : Bool := onP (at_ l i) (at_ l ((i : Int) + 1)) p
def edgeB (l : List Pnt) (p : Pnt) : Bool := anyTo (onF l p) l.length
def oddB (l : List Pnt) (p : Pnt) (k : Nat) : Bool := decide (rays k (at_ l) p % 2 = 1)
def insB (l : List Pnt) (p : Pnt) : Bool := edgeB l p || oddB l p l.length
theorem insB_iff {l : List Pnt} {p : Pnt} (h0 : 0 < l.length) : insB l p = true ↔ InQ l.length (at_ l) p := by
  unfold insB InQ edgeB oddB
  rw [Bool.or_eq_true, anyTo_ex, decide_eq_true_iff]
  have e : (∃ i, i < l.length ∧ onF l p i = true) ↔ OnSome (at_ l) p := by
    constructor
    · rintro ⟨i, _, h⟩
      exact ⟨i, h⟩
    · rintro ⟨i, h⟩
      obtain ⟨r, q, hr, rfl⟩ := parts_of l.length h0 i
      rw [show (r : Int) + (l.length : Int) * q + 1 = (r : Int) + 1 + (l.length : Int) * q by omega, at_per, at_per] at h
      exact ⟨r, hr, h⟩
  rw [e]
theorem rays_succ (k : Nat) (P : Int → Pnt) (p : Pnt) : rays (k + 1) P p = rays k P p + rayI (P k) (P (k + 1)) p := rfl
theorem oddB_zero (l : List Pnt) (p : Pnt) : oddB l p 0 = false := rfl
theorem oddB_yes {l : List Pnt} {p : Pnt} {k : Nat} (h : rayB (at_ l k) (at_ l ((k : Int) + 1)) p = true) : oddB l p (k + 1) = !oddB l p k := by
  unfold oddB
  rw [rays_succ, show rayI (at_ l k) (at_ l ((k : Int) + 1)) p = 1 by unfold rayI; rw [h]; rfl, Bool.eq_iff_iff]
  simp
  omega
theorem oddB_no {l : List Pnt} {p : Pnt} {k : Nat} (h : rayB (at_ l k) (at_ l ((k : Int) + 1)) p = false) : oddB l p (k + 1) = oddB l p k := by
  unfold oddB
  rw [rays_succ, show rayI (at_ l k) (at_ l ((k : Int) + 1)) p = 0 by unfold rayI; rw [h]; rfl, Int.add_zero]
theorem rays_bd (P : Int → Pnt) (p : Pnt) : ∀ k : Nat, 0 ≤ rays k P p ∧ rays k P p ≤ k
  | 0 => by simp [rays, sumTo]
  | k + 1 => by
    have := rays_bd P p k
    have h : rayI (P k) (P (k + 1)) p = 0 ∨ rayI (P k) (P (k + 1)) p = 1 := by unfold rayI; split <;> simp
    rw [rays_succ]
    omega
/-- The code's test of a ray. -/
def crsB (a b p : Pnt) : Bool := (decide (a.2 ≤ p.2) && decide (p.2 < b.2)) && decide (0 < turnP a b p) || (decide (b.2 ≤ p.2) && decide (p.2 < a.2)) && decide (turnP a b p < 0)
theorem crsB_eq (a b p : Pnt) : crsB a b p = rayB a b p := by
  unfold crsB rayB upB turnP
  have c := turnI_cases a.1 a.2 b.1 b.2 p.1 p.2
  rw [turnI_swap a.1 a.2 b.1 b.2 p.1 p.2]
  generalize turnI a.1 a.2 b.1 b.2 p.1 p.2 = t at c ⊢
  rw [Bool.eq_iff_iff]
  by_cases h : b.2 < a.2
  · rw [if_pos h]
    simp
    omega
  · rw [if_neg h]
    simp
    omega

/-- The rectangle of a polygon has each vertex. -/
def hasR (r : R4) (p : Pnt) : Prop := r.x1 ≤ p.1 ∧ p.1 ≤ r.x2 ∧ r.y1 ≤ p.2 ∧ p.2 ≤ r.y2
theorem hasR_step {r : R4} {p q : Pnt} (h : hasR r p) : hasR (stepR r q) p := by
  unfold hasR stepR at *
  have := mn_cases r.x1 q.1; have := mn_cases r.y1 q.2
  simp only [mn, mx] at *
  omega
theorem hasR_own (r : R4) (q : Pnt) : hasR (stepR r q) q := by
  unfold hasR stepR
  simp only [mn, mx]
  omega
theorem hasR_fold : ∀ (l : List Pnt) (r : R4) (p : Pnt), hasR r p ∨ p ∈ l → hasR (l.foldl stepR r) p
  | [], _, _, h => by
    rcases h with h | h
    · exact h
    · cases h
  | q :: l, r, p, h => by
    refine hasR_fold l (stepR r q) p ?_
    rcases h with h | h
    · exact Or.inl (hasR_step h)
    · rcases List.mem_cons.1 h with rfl | h
      · exact Or.inl (hasR_own r p)
      · exact Or.inr h
theorem ofR_has {l : List Pnt} (h : l.all pmay = true) {p : Pnt} (hp : p ∈ l) : hasR (ofR l) p := by
  cases l with
  | nil => cases hp
  | cons q t =>
    rw [ofR_yes h]
    unfold accR
    rw [List.take_of_length_le (Nat.le_refl _)]
    exact hasR_fold _ _ _ (Or.inr hp)
theorem ins_box {l : List Pnt} (h : l.all pmay = true) (h0 : 0 < l.length) {p : Pnt} (hi : insB l p = true) : inB (ofR l).x1 (ofR l).y1 (ofR l).x2 (ofR l).y2 p.1 p.2 = true := by
  rw [insB_iff h0] at hi
  have := InQ.box (per_len l) (x1 := (ofR l).x1) (y1 := (ofR l).y1) (x2 := (ofR l).x2) (y2 := (ofR l).y2) (fun i => by
    obtain ⟨r, q, hr, rfl⟩ := parts_of l.length h0 i
    rw [at_per, at_nat hr]
    exact ofR_has h (List.getElem_mem hr)) hi
  unfold inB
  simp
  omega

/-- Twice the area: the code's sum. -/
def crs0 (a b : Pnt) : Int := a.1 * b.2 - a.2 * b.1
def area0 (n : Nat) (P : Int → Pnt) : Int := sumTo (fun i => crs0 (P i) (P (i + 1))) n
theorem crs_crs0 (a b : Pnt) : crs a b = crs0 a b + (1073741824 * (b.2 - b.1) - 1073741824 * (a.2 - a.1)) := by
  unfold crs crs0
  rw [Int.add_mul, Int.mul_add, Int.mul_add, Int.add_mul, Int.mul_add, Int.mul_add]
  omega
theorem area0_eq {n : Nat} {P : Int → Pnt} (hp : ∀ j, P (j + n) = P j) : area0 n P = areaS n P := by
  have e0 := hp 0
  rw [Int.zero_add] at e0
  have h := sumTo_tele (fun i => 1073741824 * ((P i).2 - (P i).1)) n
  rw [e0, Int.sub_self] at h
  unfold areaS area0
  have e : sumTo (fun i => crs (P i) (P (i + 1))) n = sumTo (fun i => crs0 (P i) (P (i + 1)) + (1073741824 * ((P (i + 1)).2 - (P (i + 1)).1) - 1073741824 * ((P i).2 - (P i).1))) n := sumTo_congr n fun i _ => crs_crs0 ..
  rw [e, sumTo_add, h, Int.add_zero]
theorem area0_succ (k : Nat) (P : Int → Pnt) : area0 (k + 1) P = area0 k P + crs0 (P k) (P (k + 1)) := rfl
theorem areaS_succ (k : Nat) (P : Int → Pnt) : areaS (k + 1) P = areaS k P + crs (P k) (P (k + 1)) := rfl
/-- Twice the area of a polygon. -/
def twiceL (l : List Pnt) : Int := twiceI (areaS l.length (at_ l))
theorem twiceL_code (l : List Pnt) : twiceL l = mn (area0 l.length (at_ l) % 18446744073709551616) ((-(area0 l.length (at_ l) % 18446744073709551616)) % 18446744073709551616) := by
  unfold twiceL twiceI
  rw [area0_eq (per_len l)]
  generalize areaS l.length (at_ l) = s
  unfold mn
  split <;> omega

/-- Moved. -/
def moveL (l : List Pnt) (d : Pnt) : List Pnt := l.map fun p => addP p d
def fineB (l : List Pnt) (d : Pnt) : Bool := pmay d && l.all fun p => pmay (addP p d)
end Go.Proofs.Ythakngphffoooaa.Pl
/-
  Regions, plainly: four numbers and a list of points; which may be, their boxes, what is in them, moved. No program here.
-/
namespace Go.Proofs.Ythakngphffoooaa.Rg
open Go.Proofs.Ythakngphffoooaa.Pt Go.Proofs.Ythakngphffoooaa.Rc Go.Proofs.Ythakngphffoooaa.Pl
set_option linter.unusedVariables false

def rz (a b c d : Int) : Bool := a == 0 && b == 0 && c == 0 && d == 0
def eq4 (a b c d a2 b2 c2 d2 : Int) : Bool := a == a2 && b == b2 && c == c2 && d == d2
def rgB (a b c d : Int) (l : List Pnt) : Bool := if l.length = 0 then rmayB a b c d else rz a b c d && simpleB l
def rgX (a b c d : Int) (l : List Pnt) : R4 := if l.length = 0 then ⟨a, b, c, d⟩ else ofR l
def rgI (a b c d : Int) (l : List Pnt) (p : Pnt) : Bool := rgB a b c d l && (pmay p && (if l.length = 0 then inB a b c d p.1 p.2 else insB l p))
/-- May a region that may be be moved so? -/
def mvB (a b c d : Int) (l : List Pnt) (v : Pnt) : Bool := if l.length = 0 then mayB v.1 v.2 && (mayB (a + v.1) (b + v.2) && mayB (c + v.1) (d + v.2)) else fineB l v
/-- Its rectangle's numbers behind the move. -/
def mvN (l : List Pnt) (a x : Int) : Int := if l.length = 0 then a + x else 0
theorem rgB_no {a b c d : Int} {l : List Pnt} (h : l.length = 0) : rgB a b c d l = rmayB a b c d := by unfold rgB; rw [if_pos h]
theorem rgB_yes {a b c d : Int} {l : List Pnt} (h : 0 < l.length) : rgB a b c d l = (rz a b c d && simpleB l) := by unfold rgB; rw [if_neg (by omega)]
theorem rgB_simple {a b c d : Int} {l : List Pnt} (h : 0 < l.length) (hb : rgB a b c d l = true) : rz a b c d = true ∧ simpleB l = true := by
  rw [rgB_yes h, Bool.and_eq_true] at hb
  exact hb
theorem rz_all {a b c d : Int} (h : rz a b c d = true) : a = 0 ∧ b = 0 ∧ c = 0 ∧ d = 0 := by
  simp only [rz, Bool.and_eq_true, beq_iff_eq] at h
  exact ⟨h.1.1.1, h.1.1.2, h.1.2, h.2⟩
theorem eq4_self (a b c d : Int) : eq4 a b c d a b c d = true := by simp [eq4]
theorem eq4_zero (a b c d : Int) : eq4 a b c d 0 0 0 0 = rz a b c d := rfl
theorem moveL_len (l : List Pnt) (v : Pnt) : (moveL l v).length = l.length := by simp [moveL]
end Go.Proofs.Ythakngphffoooaa.Rg
namespace Go.Proofs.Ythakngphffoooaa.Kp
open Go.RowKit

variable {w W w1 : World} {N : Nat} {a0 a1 a2 a3 a4 a5 a6 a7 a8 a9 a10 a11 a12 a13 : Addr} {v0 v1 v2 v3 v4 v5 v6 v7 v8 v9 v10 v11 v12 v13 : Value}

theorem ends (hb : Below W.heap.size W w1) (h : N ≤ W.heap.size ∧ Below N w W) : N ≤ w1.heap.size ∧ Below N w w1 :=
  ⟨Nat.le_trans h.1 hb.size, h.2.trans (hb.mono h.1)⟩
theorem one {P P' : Prop} (hb : Below W.heap.size W w1) (f : P → P') (h : W.cell? a0 = some v0 ∧ P) : w1.cell? a0 = some v0 ∧ P' := ⟨cell_later hb h.1, f h.2⟩
theorem two {P P' : Prop} (hb : Below W.heap.size W w1) (f : P → P') (h : W.cell? a0 = some v0 ∧ W.cell? a1 = some v1 ∧ P) : w1.cell? a0 = some v0 ∧ w1.cell? a1 = some v1 ∧ P' := one hb (one hb f) h

theorem keep2 (hb : Below W.heap.size W w1) (h : W.cell? a0 = some v0 ∧ W.cell? a1 = some v1 ∧ N ≤ W.heap.size ∧ Below N w W) :
    w1.cell? a0 = some v0 ∧ w1.cell? a1 = some v1 ∧ N ≤ w1.heap.size ∧ Below N w w1 := two hb (ends hb) h
theorem keep4 (hb : Below W.heap.size W w1) (h : W.cell? a0 = some v0 ∧ W.cell? a1 = some v1 ∧ W.cell? a2 = some v2 ∧ W.cell? a3 = some v3 ∧ N ≤ W.heap.size ∧ Below N w W) :
    w1.cell? a0 = some v0 ∧ w1.cell? a1 = some v1 ∧ w1.cell? a2 = some v2 ∧ w1.cell? a3 = some v3 ∧ N ≤ w1.heap.size ∧ Below N w w1 := two hb (two hb (ends hb)) h
theorem keep6 (hb : Below W.heap.size W w1) (h : W.cell? a0 = some v0 ∧ W.cell? a1 = some v1 ∧ W.cell? a2 = some v2 ∧ W.cell? a3 = some v3 ∧ W.cell? a4 = some v4 ∧ W.cell? a5 = some v5 ∧ N ≤ W.heap.size ∧ Below N w W) :
    w1.cell? a0 = some v0 ∧ w1.cell? a1 = some v1 ∧ w1.cell? a2 = some v2 ∧ w1.cell? a3 = some v3 ∧ w1.cell? a4 = some v4 ∧ w1.cell? a5 = some v5 ∧ N ≤ w1.heap.size ∧ Below N w w1 := two hb (two hb (two hb (ends hb))) h
theorem keep8 (hb : Below W.heap.size W w1) (h : W.cell? a0 = some v0 ∧ W.cell? a1 = some v1 ∧ W.cell? a2 = some v2 ∧ W.cell? a3 = some v3 ∧ W.cell? a4 = some v4 ∧ W.cell? a5 = some v5 ∧ W.cell? a6 = some v6 ∧ W.cell? a7 = some v7 ∧ N ≤ W.heap.size ∧ Below N w W) :
    w1.cell? a0 = some v0 ∧ w1.cell? a1 = some v1 ∧ w1.cell? a2 = some v2 ∧ w1.cell? a3 = some v3 ∧ w1.cell? a4 = some v4 ∧ w1.cell? a5 = some v5 ∧ w1.cell? a6 = some v6 ∧ w1.cell? a7 = some v7 ∧ N ≤ w1.heap.size ∧ Below N w w1 := two hb (two hb (two hb (two hb (ends hb)))) h

/-- A new block of two cells; its number is b. -/
theorem fresh (W : World) (b : Nat) (e : W.heap.size = b) (x y : Value) (t : TypeId) : (W.alloc (.cells #[x, y] t)).cell? ⟨b, 0, none⟩ = some x ∧ (W.alloc (.cells #[x, y] t)).cell? ⟨b, 1, none⟩ = some y := by
  subst e; constructor <;> simp [go_sem]
theorem behind (W : World) (o : Obj) : Below W.heap.size W (W.alloc o) := (Below.refl _ _).alloc (Nat.le_refl _) _
theorem add0 (h : N ≤ W.heap.size ∧ Below N w W) (b : Nat) (e : W.heap.size = b) (x y : Value) (t : TypeId) :
    (W.alloc (.cells #[x, y] t)).cell? ⟨b, 0, none⟩ = some x ∧ (W.alloc (.cells #[x, y] t)).cell? ⟨b, 1, none⟩ = some y ∧ N ≤ (W.alloc (.cells #[x, y] t)).heap.size ∧ Below N w (W.alloc (.cells #[x, y] t)) :=
  ⟨(fresh W b e x y t).1, (fresh W b e x y t).2, ends (behind ..) h⟩
theorem add2 (h : W.cell? a0 = some v0 ∧ W.cell? a1 = some v1 ∧ N ≤ W.heap.size ∧ Below N w W) (b : Nat) (e : W.heap.size = b) (x y : Value) (t : TypeId) :
    (W.alloc (.cells #[x, y] t)).cell? a0 = some v0 ∧ (W.alloc (.cells #[x, y] t)).cell? a1 = some v1 ∧ (W.alloc (.cells #[x, y] t)).cell? ⟨b, 0, none⟩ = some x ∧ (W.alloc (.cells #[x, y] t)).cell? ⟨b, 1, none⟩ = some y
      ∧ N ≤ (W.alloc (.cells #[x, y] t)).heap.size ∧ Below N w (W.alloc (.cells #[x, y] t)) := two (behind ..) (fun h => add0 h b e x y t) h
theorem add4 (h : W.cell? a0 = some v0 ∧ W.cell? a1 = some v1 ∧ W.cell? a2 = some v2 ∧ W.cell? a3 = some v3 ∧ N ≤ W.heap.size ∧ Below N w W) (b : Nat) (e : W.heap.size = b) (x y : Value) (t : TypeId) :
    (W.alloc (.cells #[x, y] t)).cell? a0 = some v0 ∧ (W.alloc (.cells #[x, y] t)).cell? a1 = some v1 ∧ (W.alloc (.cells #[x, y] t)).cell? a2 = some v2 ∧ (W.alloc (.cells #[x, y] t)).cell? a3 = some v3
      ∧ (W.alloc (.cells #[x, y] t)).cell? ⟨b, 0, none⟩ = some x ∧ (W.alloc (.cells #[x, y] t)).cell? ⟨b, 1, none⟩ = some y
      ∧ N ≤ (W.alloc (.cells #[x, y] t)).heap.size ∧ Below N w (W.alloc (.cells #[x, y] t)) := two (behind ..) (two (behind ..) (fun h => add0 h b e x y t)) h
theorem add6 (h : W.cell? a0 = some v0 ∧ W.cell? a1 = some v1 ∧ W.cell? a2 = some v2 ∧ W.cell? a3 = some v3 ∧ W.cell? a4 = some v4 ∧ W.cell? a5 = some v5 ∧ N ≤ W.heap.size ∧ Below N w W) (b : Nat) (e : W.heap.size = b) (x y : Value) (t : TypeId) :
    (W.alloc (.cells #[x, y] t)).cell? a0 = some v0 ∧ (W.alloc (.cells #[x, y] t)).cell? a1 = some v1 ∧ (W.alloc (.cells #[x, y] t)).cell? a2 = some v2 ∧ (W.alloc (.cells #[x, y] t)).cell? a3 = some v3 ∧ (W.alloc (.cells #[x, y] t)).cell? a4 = some v4 ∧ (W.alloc (.cells #[x, y] t)).cell? a5 = some v5
      ∧ (W.alloc (.cells #[x, y] t)).cell? ⟨b, 0, none⟩ = some x ∧ (W.alloc (.cells #[x, y] t)).cell? ⟨b, 1, none⟩ = some y
      ∧ N ≤ (W.alloc (.cells #[x, y] t)).heap.size ∧ Below N w (W.alloc (.cells #[x, y] t)) := two (behind ..) (two (behind ..) (two (behind ..) (fun h => add0 h b e x y t))) h

/-- A draw moves no cell. -/
theorem drew8 (h : W.cell? a0 = some v0 ∧ W.cell? a1 = some v1 ∧ W.cell? a2 = some v2 ∧ W.cell? a3 = some v3 ∧ W.cell? a4 = some v4 ∧ W.cell? a5 = some v5 ∧ W.cell? a6 = some v6 ∧ W.cell? a7 = some v7 ∧ N ≤ W.heap.size ∧ Below N w W) :
    W.drew.cell? a0 = some v0 ∧ W.drew.cell? a1 = some v1 ∧ W.drew.cell? a2 = some v2 ∧ W.drew.cell? a3 = some v3 ∧ W.drew.cell? a4 = some v4 ∧ W.drew.cell? a5 = some v5 ∧ W.drew.cell? a6 = some v6 ∧ W.drew.cell? a7 = some v7 ∧ N ≤ W.drew.heap.size ∧ Below N w W.drew :=
  ⟨h.1, h.2.1, h.2.2.1, h.2.2.2.1, h.2.2.2.2.1, h.2.2.2.2.2.1, h.2.2.2.2.2.2.1, h.2.2.2.2.2.2.2.1, h.2.2.2.2.2.2.2.2.1, h.2.2.2.2.2.2.2.2.2.drew⟩
theorem end2 {p0 p1 p2 : Prop} (h : p0 ∧ p1 ∧ p2 ∧ Below N w W) : Below N w W := h.2.2.2
theorem end4 {p0 p1 p2 p3 p4 : Prop} (h : p0 ∧ p1 ∧ p2 ∧ p3 ∧ p4 ∧ Below N w W) : Below N w W := h.2.2.2.2.2
theorem end6 {p0 p1 p2 p3 p4 p5 p6 : Prop} (h : p0 ∧ p1 ∧ p2 ∧ p3 ∧ p4 ∧ p5 ∧ p6 ∧ Below N w W) : Below N w W := h.2.2.2.2.2.2.2
theorem end8 {p0 p1 p2 p3 p4 p5 p6 p7 p8 : Prop} (h : p0 ∧ p1 ∧ p2 ∧ p3 ∧ p4 ∧ p5 ∧ p6 ∧ p7 ∧ p8 ∧ Below N w W) : Below N w W := h.2.2.2.2.2.2.2.2.2
theorem keep10 (hb : Below W.heap.size W w1) (h : W.cell? a0 = some v0 ∧ W.cell? a1 = some v1 ∧ W.cell? a2 = some v2 ∧ W.cell? a3 = some v3 ∧ W.cell? a4 = some v4 ∧ W.cell? a5 = some v5 ∧ W.cell? a6 = some v6 ∧ W.cell? a7 = some v7 ∧ W.cell? a8 = some v8 ∧ W.cell? a9 = some v9 ∧ N ≤ W.heap.size ∧ Below N w W) :
    w1.cell? a0 = some v0 ∧ w1.cell? a1 = some v1 ∧ w1.cell? a2 = some v2 ∧ w1.cell? a3 = some v3 ∧ w1.cell? a4 = some v4 ∧ w1.cell? a5 = some v5 ∧ w1.cell? a6 = some v6 ∧ w1.cell? a7 = some v7 ∧ w1.cell? a8 = some v8 ∧ w1.cell? a9 = some v9 ∧ N ≤ w1.heap.size ∧ Below N w w1 := two hb (two hb (two hb (two hb (two hb (ends hb))))) h
theorem keep12 (hb : Below W.heap.size W w1) (h : W.cell? a0 = some v0 ∧ W.cell? a1 = some v1 ∧ W.cell? a2 = some v2 ∧ W.cell? a3 = some v3 ∧ W.cell? a4 = some v4 ∧ W.cell? a5 = some v5 ∧ W.cell? a6 = some v6 ∧ W.cell? a7 = some v7 ∧ W.cell? a8 = some v8 ∧ W.cell? a9 = some v9 ∧ W.cell? a10 = some v10 ∧ W.cell? a11 = some v11 ∧ N ≤ W.heap.size ∧ Below N w W) :
    w1.cell? a0 = some v0 ∧ w1.cell? a1 = some v1 ∧ w1.cell? a2 = some v2 ∧ w1.cell? a3 = some v3 ∧ w1.cell? a4 = some v4 ∧ w1.cell? a5 = some v5 ∧ w1.cell? a6 = some v6 ∧ w1.cell? a7 = some v7 ∧ w1.cell? a8 = some v8 ∧ w1.cell? a9 = some v9 ∧ w1.cell? a10 = some v10 ∧ w1.cell? a11 = some v11 ∧ N ≤ w1.heap.size ∧ Below N w w1 := two hb (two hb (two hb (two hb (two hb (two hb (ends hb)))))) h
theorem keep14 (hb : Below W.heap.size W w1) (h : W.cell? a0 = some v0 ∧ W.cell? a1 = some v1 ∧ W.cell? a2 = some v2 ∧ W.cell? a3 = some v3 ∧ W.cell? a4 = some v4 ∧ W.cell? a5 = some v5 ∧ W.cell? a6 = some v6 ∧ W.cell? a7 = some v7 ∧ W.cell? a8 = some v8 ∧ W.cell? a9 = some v9 ∧ W.cell? a10 = some v10 ∧ W.cell? a11 = some v11 ∧ W.cell? a12 = some v12 ∧ W.cell? a13 = some v13 ∧ N ≤ W.heap.size ∧ Below N w W) :
    w1.cell? a0 = some v0 ∧ w1.cell? a1 = some v1 ∧ w1.cell? a2 = some v2 ∧ w1.cell? a3 = some v3 ∧ w1.cell? a4 = some v4 ∧ w1.cell? a5 = some v5 ∧ w1.cell? a6 = some v6 ∧ w1.cell? a7 = some v7 ∧ w1.cell? a8 = some v8 ∧ w1.cell? a9 = some v9 ∧ w1.cell? a10 = some v10 ∧ w1.cell? a11 = some v11 ∧ w1.cell? a12 = some v12 ∧ w1.cell? a13 = some v13 ∧ N ≤ w1.heap.size ∧ Below N w w1 := two hb (two hb (two hb (two hb (two hb (two hb (two hb (ends hb))))))) h
theorem add8 (h : W.cell? a0 = some v0 ∧ W.cell? a1 = some v1 ∧ W.cell? a2 = some v2 ∧ W.cell? a3 = some v3 ∧ W.cell? a4 = some v4 ∧ W.cell? a5 = some v5 ∧ W.cell? a6 = some v6 ∧ W.cell? a7 = some v7 ∧ N ≤ W.heap.size ∧ Below N w W) (b : Nat) (e : W.heap.size = b) (x y : Value) (t : TypeId) :
    (W.alloc (.cells #[x, y] t)).cell? a0 = some v0 ∧ (W.alloc (.cells #[x, y] t)).cell? a1 = some v1 ∧ (W.alloc (.cells #[x, y] t)).cell? a2 = some v2 ∧ (W.alloc (.cells #[x, y] t)).cell? a3 = some v3 ∧ (W.alloc (.cells #[x, y] t)).cell? a4 = some v4 ∧ (W.alloc (.cells #[x, y] t)).cell? a5 = some v5 ∧ (W.alloc (.cells #[x, y] t)).cell? a6 = some v6 ∧ (W.alloc (.cells #[x, y] t)).cell? a7 = some v7 ∧ (W.alloc (.cells #[x, y] t)).cell? ⟨b, 0, none⟩ = some x ∧ (W.alloc (.cells #[x, y] t)).cell? ⟨b, 1, none⟩ = some y ∧ N ≤ (W.alloc (.cells #[x, y] t)).heap.size ∧ Below N w (W.alloc (.cells #[x, y] t)) := two (behind ..) (two (behind ..) (two (behind ..) (two (behind ..) (fun h => add0 h b e x y t)))) h
theorem add10 (h : W.cell? a0 = some v0 ∧ W.cell? a1 = some v1 ∧ W.cell? a2 = some v2 ∧ W.cell? a3 = some v3 ∧ W.cell? a4 = some v4 ∧ W.cell? a5 = some v5 ∧ W.cell? a6 = some v6 ∧ W.cell? a7 = some v7 ∧ W.cell? a8 = some v8 ∧ W.cell? a9 = some v9 ∧ N ≤ W.heap.size ∧ Below N w W) (b : Nat) (e : W.heap.size = b) (x y : Value) (t : TypeId) :
    (W.alloc (.cells #[x, y] t)).cell? a0 = some v0 ∧ (W.alloc (.cells #[x, y] t)).cell? a1 = some v1 ∧ (W.alloc (.cells #[x, y] t)).cell? a2 = some v2 ∧ (W.alloc (.cells #[x, y] t)).cell? a3 = some v3 ∧ (W.alloc (.cells #[x, y] t)).cell? a4 = some v4 ∧ (W.alloc (.cells #[x, y] t)).cell? a5 = some v5 ∧ (W.alloc (.cells #[x, y] t)).cell? a6 = some v6 ∧ (W.alloc (.cells #[x, y] t)).cell? a7 = some v7 ∧ (W.alloc (.cells #[x, y] t)).cell? a8 = some v8 ∧ (W.alloc (.cells #[x, y] t)).cell? a9 = some v9 ∧ (W.alloc (.cells #[x, y] t)).cell? ⟨b, 0, none⟩ = some x ∧ (W.alloc (.cells #[x, y] t)).cell? ⟨b, 1, none⟩ = some y ∧ N ≤ (W.alloc (.cells #[x, y] t)).heap.size ∧ Below N w (W.alloc (.cells #[x, y] t)) := two (behind ..) (two (behind ..) (two (behind ..) (two (behind ..) (two (behind ..) (fun h => add0 h b e x y t))))) h
theorem add12 (h : W.cell? a0 = some v0 ∧ W.cell? a1 = some v1 ∧ W.cell? a2 = some v2 ∧ W.cell? a3 = some v3 ∧ W.cell? a4 = some v4 ∧ W.cell? a5 = some v5 ∧ W.cell? a6 = some v6 ∧ W.cell? a7 = some v7 ∧ W.cell? a8 = some v8 ∧ W.cell? a9 = some v9 ∧ W.cell? a10 = some v10 ∧ W.cell? a11 = some v11 ∧ N ≤ W.heap.size ∧ Below N w W) (b : Nat) (e : W.heap.size = b) (x y : Value) (t : TypeId) :
    (W.alloc (.cells #[x, y] t)).cell? a0 = some v0 ∧ (W.alloc (.cells #[x, y] t)).cell? a1 = some v1 ∧ (W.alloc (.cells #[x, y] t)).cell? a2 = some v2 ∧ (W.alloc (.cells #[x, y] t)).cell? a3 = some v3 ∧ (W.alloc (.cells #[x, y] t)).cell? a4 = some v4 ∧ (W.alloc (.cells #[x, y] t)).cell? a5 = some v5 ∧ (W.alloc (.cells #[x, y] t)).cell? a6 = some v6 ∧ (W.alloc (.cells #[x, y] t)).cell? a7 = some v7 ∧ (W.alloc (.cells #[x, y] t)).cell? a8 = some v8 ∧ (W.alloc (.cells #[x, y] t)).cell? a9 = some v9 ∧ (W.alloc (.cells #[x, y] t)).cell? a10 = some v10 ∧ (W.alloc (.cells #[x, y] t)).cell? a11 = some v11 ∧ (W.alloc (.cells #[x, y] t)).cell? ⟨b, 0, none⟩ = some x ∧ (W.alloc (.cells #[x, y] t)).cell? ⟨b, 1, none⟩ = some y ∧ N ≤ (W.alloc (.cells #[x, y] t)).heap.size ∧ Below N w (W.alloc (.cells #[x, y] t)) := two (behind ..) (two (behind ..) (two (behind ..) (two (behind ..) (two (behind ..) (two (behind ..) (fun h => add0 h b e x y t)))))) h
theorem drewEnds (h : N ≤ W.heap.size ∧ Below N w W) : N ≤ W.drew.heap.size ∧ Below N w W.drew := ⟨h.1, h.2.drew⟩
theorem drewTwo {P P' : Prop} (f : P → P') (h : W.cell? a0 = some v0 ∧ W.cell? a1 = some v1 ∧ P) : W.drew.cell? a0 = some v0 ∧ W.drew.cell? a1 = some v1 ∧ P' := ⟨h.1, h.2.1, f h.2.2⟩
theorem drew2 (h : W.cell? a0 = some v0 ∧ W.cell? a1 = some v1 ∧ N ≤ W.heap.size ∧ Below N w W) :
    W.drew.cell? a0 = some v0 ∧ W.drew.cell? a1 = some v1 ∧ N ≤ W.drew.heap.size ∧ Below N w W.drew := drewTwo (drewEnds) h
theorem drew4 (h : W.cell? a0 = some v0 ∧ W.cell? a1 = some v1 ∧ W.cell? a2 = some v2 ∧ W.cell? a3 = some v3 ∧ N ≤ W.heap.size ∧ Below N w W) :
    W.drew.cell? a0 = some v0 ∧ W.drew.cell? a1 = some v1 ∧ W.drew.cell? a2 = some v2 ∧ W.drew.cell? a3 = some v3 ∧ N ≤ W.drew.heap.size ∧ Below N w W.drew := drewTwo (drewTwo (drewEnds)) h
theorem drew6 (h : W.cell? a0 = some v0 ∧ W.cell? a1 = some v1 ∧ W.cell? a2 = some v2 ∧ W.cell? a3 = some v3 ∧ W.cell? a4 = some v4 ∧ W.cell? a5 = some v5 ∧ N ≤ W.heap.size ∧ Below N w W) :
    W.drew.cell? a0 = some v0 ∧ W.drew.cell? a1 = some v1 ∧ W.drew.cell? a2 = some v2 ∧ W.drew.cell? a3 = some v3 ∧ W.drew.cell? a4 = some v4 ∧ W.drew.cell? a5 = some v5 ∧ N ≤ W.drew.heap.size ∧ Below N w W.drew := drewTwo (drewTwo (drewTwo (drewEnds))) h
theorem drew10 (h : W.cell? a0 = some v0 ∧ W.cell? a1 = some v1 ∧ W.cell? a2 = some v2 ∧ W.cell? a3 = some v3 ∧ W.cell? a4 = some v4 ∧ W.cell? a5 = some v5 ∧ W.cell? a6 = some v6 ∧ W.cell? a7 = some v7 ∧ W.cell? a8 = some v8 ∧ W.cell? a9 = some v9 ∧ N ≤ W.heap.size ∧ Below N w W) :
    W.drew.cell? a0 = some v0 ∧ W.drew.cell? a1 = some v1 ∧ W.drew.cell? a2 = some v2 ∧ W.drew.cell? a3 = some v3 ∧ W.drew.cell? a4 = some v4 ∧ W.drew.cell? a5 = some v5 ∧ W.drew.cell? a6 = some v6 ∧ W.drew.cell? a7 = some v7 ∧ W.drew.cell? a8 = some v8 ∧ W.drew.cell? a9 = some v9 ∧ N ≤ W.drew.heap.size ∧ Below N w W.drew := drewTwo (drewTwo (drewTwo (drewTwo (drewTwo (drewEnds))))) h
theorem drew12 (h : W.cell? a0 = some v0 ∧ W.cell? a1 = some v1 ∧ W.cell? a2 = some v2 ∧ W.cell? a3 = some v3 ∧ W.cell? a4 = some v4 ∧ W.cell? a5 = some v5 ∧ W.cell? a6 = some v6 ∧ W.cell? a7 = some v7 ∧ W.cell? a8 = some v8 ∧ W.cell? a9 = some v9 ∧ W.cell? a10 = some v10 ∧ W.cell? a11 = some v11 ∧ N ≤ W.heap.size ∧ Below N w W) :
    W.drew.cell? a0 = some v0 ∧ W.drew.cell? a1 = some v1 ∧ W.drew.cell? a2 = some v2 ∧ W.drew.cell? a3 = some v3 ∧ W.drew.cell? a4 = some v4 ∧ W.drew.cell? a5 = some v5 ∧ W.drew.cell? a6 = some v6 ∧ W.drew.cell? a7 = some v7 ∧ W.drew.cell? a8 = some v8 ∧ W.drew.cell? a9 = some v9 ∧ W.drew.cell? a10 = some v10 ∧ W.drew.cell? a11 = some v11 ∧ N ≤ W.drew.heap.size ∧ Below N w W.drew := drewTwo (drewTwo (drewTwo (drewTwo (drewTwo (drewTwo (drewEnds)))))) h
theorem drew14 (h : W.cell? a0 = some v0 ∧ W.cell? a1 = some v1 ∧ W.cell? a2 = some v2 ∧ W.cell? a3 = some v3 ∧ W.cell? a4 = some v4 ∧ W.cell? a5 = some v5 ∧ W.cell? a6 = some v6 ∧ W.cell? a7 = some v7 ∧ W.cell? a8 = some v8 ∧ W.cell? a9 = some v9 ∧ W.cell? a10 = some v10 ∧ W.cell? a11 = some v11 ∧ W.cell? a12 = some v12 ∧ W.cell? a13 = some v13 ∧ N ≤ W.heap.size ∧ Below N w W) :
    W.drew.cell? a0 = some v0 ∧ W.drew.cell? a1 = some v1 ∧ W.drew.cell? a2 = some v2 ∧ W.drew.cell? a3 = some v3 ∧ W.drew.cell? a4 = some v4 ∧ W.drew.cell? a5 = some v5 ∧ W.drew.cell? a6 = some v6 ∧ W.drew.cell? a7 = some v7 ∧ W.drew.cell? a8 = some v8 ∧ W.drew.cell? a9 = some v9 ∧ W.drew.cell? a10 = some v10 ∧ W.drew.cell? a11 = some v11 ∧ W.drew.cell? a12 = some v12 ∧ W.drew.cell? a13 = some v13 ∧ N ≤ W.drew.heap.size ∧ Below N w W.drew := drewTwo (drewTwo (drewTwo (drewTwo (drewTwo (drewTwo (drewTwo (drewEnds))))))) h
theorem end10 {p0 p1 p2 p3 p4 p5 p6 p7 p8 p9 p10 : Prop} (h : p0 ∧ p1 ∧ p2 ∧ p3 ∧ p4 ∧ p5 ∧ p6 ∧ p7 ∧ p8 ∧ p9 ∧ p10 ∧ Below N w W) : Below N w W := h.2.2.2.2.2.2.2.2.2.2.2
theorem end12 {p0 p1 p2 p3 p4 p5 p6 p7 p8 p9 p10 p11 p12 : Prop} (h : p0 ∧ p1 ∧ p2 ∧ p3 ∧ p4 ∧ p5 ∧ p6 ∧ p7 ∧ p8 ∧ p9 ∧ p10 ∧ p11 ∧ p12 ∧ Below N w W) : Below N w W := h.2.2.2.2.2.2.2.2.2.2.2.2.2
theorem end14 {p0 p1 p2 p3 p4 p5 p6 p7 p8 p9 p10 p11 p12 p13 p14 : Prop} (h : p0 ∧ p1 ∧ p2 ∧ p3 ∧ p4 ∧ p5 ∧ p6 ∧ p7 ∧ p8 ∧ p9 ∧ p10 ∧ p11 ∧ p12 ∧ p13 ∧ p14 ∧ Below N w W) : Below N w W := h.2.2.2.2.2.2.2.2.2.2.2.2.2.2.2
end Go.Proofs.Ythakngphffoooaa.Kp
