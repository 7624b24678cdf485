/-
  Owners of cells: the number times the brokers by one more than the greatest number; it never falls as the number rises. What is left of a list that never falls when neighbours that are alike become one. Plain; no program here.
-/
import Derived.Test.YtkkolodolmppnaaCvPlain
import Derived.Lib.SlicesCompact
namespace Go.Proofs.Ytkkolodolmppnaa.Ow
open Go.Proofs.Ytkkolodolmppnaa.Pt Go.Proofs.Ytkkolodolmppnaa.Rc Go.Proofs.Ytkkolodolmppnaa.Mo Go.Proofs.Ytkkolodolmppnaa.Cv
set_option linter.unusedVariables false

theorem codeF_mono : ∀ (k c c' r r' : Nat), c ≤ c' → r ≤ r' → c' < 2 ^ k → r' < 2 ^ k → codeF k c r ≤ codeF k c' r'
  | 0, c, c', r, r', h1, h2, h3, h4 => by
    have : c' = 0 := by simpa using h3
    have : r' = 0 := by simpa using h4
    have : c = 0 := by omega
    have : r = 0 := by omega
    subst_vars
    exact Nat.le_refl _
  | k + 1, c, c', r, r', h1, h2, h3, h4 => by
    have h3' := half_lt h3
    have h4' := half_lt h4
    have ih := codeF_mono k (c / 2) (c' / 2) (r / 2) (r' / 2) (by omega) (by omega) h3' h4'
    rw [codeF_succ, codeF_succ]
    by_cases e : codeF k (c / 2) (r / 2) = codeF k (c' / 2) (r' / 2)
    · obtain ⟨e1, e2⟩ := (codeF_inj (k := k) (by omega) (by omega) h3' h4').1 e
      omega
    · omega

/-- The greatest number of a cell. -/
def gF (k : Nat) : Nat := codeF 31 (2 ^ (31 - k)) (2 ^ (31 - k))
theorem gF_lt {k : Nat} (h1 : 24 ≤ k) (h2 : k ≤ 31) : gF k < 65536 := by
  rcases (show k = 24 ∨ k = 25 ∨ k = 26 ∨ k = 27 ∨ k = 28 ∨ k = 29 ∨ k = 30 ∨ k = 31 by omega) with rfl | rfl | rfl | rfl | rfl | rfl | rfl | rfl <;> decide
theorem lst_lt {k : Nat} (h1 : 24 ≤ k) (h2 : k ≤ 31) : 2 ^ (31 - k) ≤ 128 := by
  rcases (show k = 24 ∨ k = 25 ∨ k = 26 ∨ k = 27 ∨ k = 28 ∨ k = 29 ∨ k = 30 ∨ k = 31 by omega) with rfl | rfl | rfl | rfl | rfl | rfl | rfl | rfl <;> decide
theorem side_lst (k : Nat) : sideI k = ((2 ^ (31 - k) : Nat) : Int) + 1 := by unfold sideI; simp
theorem code_le {k c r : Nat} (h1 : 24 ≤ k) (h2 : k ≤ 31) (hc : c ≤ 2 ^ (31 - k)) (hr : r ≤ 2 ^ (31 - k)) : codeF 31 c r ≤ gF k := by
  have := lst_lt h1 h2
  exact codeF_mono 31 _ _ _ _ hc hr (by omega) (by omega)

/-- A number's owner among b brokers, g the greatest number. -/
def owF (g b n : Nat) : Nat := n * b / (g + 1)
theorem owF_mono {g b m n : Nat} (h : m ≤ n) : owF g b m ≤ owF g b n := Nat.div_le_div_right (Nat.mul_le_mul_right _ h)
theorem owF_lt {g b n : Nat} (hb : 1 ≤ b) (hn : n ≤ g) : owF g b n < b := by
  unfold owF
  rw [Nat.div_lt_iff_lt_mul (by omega), Nat.mul_comm b]
  exact Nat.mul_lt_mul_of_pos_right (by omega) hb
def brB (b : Int) : Bool := decide (1 ≤ b) && decide (b ≤ 64)
theorem brB_iff {b : Int} : brB b = true ↔ 1 ≤ b ∧ b ≤ 64 := by simp [brB]
theorem brB_no {b : Int} (h : brB b = false) : b < 1 ∨ 64 < b := by
  by_cases h1 : b < 1
  · exact Or.inl h1
  · refine Or.inr ?_
    by_cases h2 : 64 < b
    · exact h2
    · have := (brB_iff (b := b)).2 ⟨by omega, by omega⟩
      rw [h] at this
      cases this
theorem brB_nat {b : Int} (h : brB b = true) : ∃ k : Nat, b = k ∧ 1 ≤ k ∧ k ≤ 64 := by
  obtain ⟨h1, h2⟩ := brB_iff.1 h
  refine ⟨b.toNat, ?_, ?_, ?_⟩ <;> omega
/-- An owner, of a number as an integer. -/
def owI (g b : Nat) (y : Int) : Int := (owF g b y.toNat : Nat)
theorem owI_mono {g b : Nat} {x y : Int} (h : x ≤ y) : owI g b x ≤ owI g b y := by
  unfold owI
  have := owF_mono (g := g) (b := b) (show x.toNat ≤ y.toNat by omega)
  omega
theorem owI_nat (g b n : Nat) : owI g b (n : Int) = (owF g b n : Nat) := by unfold owI; rw [Int.toNat_natCast]

/-- Rising, each once. -/
def Rise (l : List Int) : Prop := l.Pairwise (· < ·)
theorem rise_eq : ∀ {l m : List Int}, Rise l → Rise m → (∀ x, x ∈ l ↔ x ∈ m) → l = m
  | [], [], _, _, _ => rfl
  | [], y :: m, _, _, h => by have := (h y).2 (List.mem_cons_self ..); simp at this
  | x :: l, [], _, _, h => by have := (h x).1 (List.mem_cons_self ..); simp at this
  | x :: l, y :: m, hl, hm, h => by
    obtain ⟨hl1, hl2⟩ := List.pairwise_cons.1 hl
    obtain ⟨hm1, hm2⟩ := List.pairwise_cons.1 hm
    have e : x = y := by
      rcases List.mem_cons.1 ((h x).1 (List.mem_cons_self ..)) with e | e
      · exact e
      · rcases List.mem_cons.1 ((h y).2 (List.mem_cons_self ..)) with e2 | e2
        · exact e2.symm
        · have h1 := hm1 x e
          have h2 := hl1 y e2
          omega
    subst e
    congr 1
    refine rise_eq hl2 hm2 fun z => ⟨fun hz => ?_, fun hz => ?_⟩
    · rcases List.mem_cons.1 ((h z).1 (List.mem_cons_of_mem _ hz)) with e | e
      · have := hl1 z hz; omega
      · exact e
    · rcases List.mem_cons.1 ((h z).2 (List.mem_cons_of_mem _ hz)) with e | e
      · have := hm1 z hz; omega
      · exact e

theorem compact_upto (d : Array Int) (hd : ∀ i j, i ≤ j → j < d.size → d[i]! ≤ d[j]!) : ∀ m, m ≤ d.size → Rise (Lib.compactUpTo d m) ∧ (∀ x, x ∈ Lib.compactUpTo d m ↔ ∃ j, j < m ∧ x = d[j]!)
  | 0, _ => ⟨List.Pairwise.nil, fun x => ⟨fun h => by simp [Lib.compactUpTo] at h, fun ⟨j, h, _⟩ => by omega⟩⟩
  | m + 1, hm => by
    obtain ⟨h1, h2⟩ := compact_upto d hd m (by omega)
    rw [Lib.compactUpTo_succ]
    by_cases hk : Lib.keeps d m = true
    · rw [if_pos hk]
      have hk' : m = 0 ∨ d[m]! ≠ d[m - 1]! := by simpa [Lib.keeps] using hk
      refine ⟨List.pairwise_append.2 ⟨h1, by simp, fun a ha b hb => ?_⟩, fun x => ?_⟩
      · simp at hb
        subst hb
        obtain ⟨j, hj, rfl⟩ := (h2 a).1 ha
        have h3 := hd j (m - 1) (by omega) (by omega)
        have h4 := hd (m - 1) m (by omega) (by omega)
        rcases hk' with e | e
        · omega
        · omega
      · rw [List.mem_append, h2]
        constructor
        · rintro (⟨j, hj, e⟩ | e)
          · exact ⟨j, by omega, e⟩
          · simp at e; exact ⟨m, by omega, by simpa using e⟩
        · rintro ⟨j, hj, e⟩
          by_cases ej : j = m
          · subst ej; exact Or.inr (by simp [e])
          · exact Or.inl ⟨j, by omega, e⟩
    · rw [if_neg hk, List.append_nil]
      have hk' : ¬ (m = 0 ∨ d[m]! ≠ d[m - 1]!) := by simpa [Lib.keeps] using hk
      have hm0 : m ≠ 0 := fun e => hk' (Or.inl e)
      have hme : d[m]! = d[m - 1]! := Classical.byContradiction fun e => hk' (Or.inr e)
      refine ⟨h1, fun x => ?_⟩
      rw [h2]
      constructor
      · rintro ⟨j, hj, e⟩; exact ⟨j, by omega, e⟩
      · rintro ⟨j, hj, e⟩
        by_cases ej : j = m
        · subst ej; exact ⟨j - 1, by omega, by rw [e, hme]⟩
        · exact ⟨j, by omega, e⟩
theorem compact_rise {l : List Int} (h : l.Pairwise (· ≤ ·)) : Rise (Lib.compact l) ∧ ∀ x, x ∈ Lib.compact l ↔ x ∈ l := by
  have hd : ∀ i j, i ≤ j → j < l.toArray.size → l.toArray[i]! ≤ l.toArray[j]! := by
    intro i j hij hj
    have hj' : j < l.length := by simpa using hj
    rw [getElem!_pos l.toArray i (by simpa using Nat.lt_of_le_of_lt hij hj'), getElem!_pos l.toArray j hj]
    simp only [List.getElem_toArray]
    by_cases e : i = j
    · subst e; exact Int.le_refl _
    · exact (List.pairwise_iff_getElem.1 h) i j (by omega) hj' (by omega)
  obtain ⟨h1, h2⟩ := compact_upto l.toArray hd l.length (by simp)
  refine ⟨h1, fun x => ?_⟩
  rw [show Lib.compact l = Lib.compactUpTo l.toArray l.length from rfl, h2]
  constructor
  · rintro ⟨j, hj, rfl⟩
    rw [getElem!_pos l.toArray j (by simpa using hj)]
    simp
  · intro hx
    obtain ⟨j, hj, rfl⟩ := List.mem_iff_getElem.1 hx
    exact ⟨j, hj, by rw [getElem!_pos l.toArray j (by simpa using hj)]; simp⟩
theorem compact_len (l : List Int) : (Lib.compact l).length ≤ l.length := by
  unfold Lib.compact Lib.compactUpTo
  rw [List.length_map]
  exact Nat.le_trans (List.length_filter_le _ _) (by simp)
/-- Of the brokers those that P speaks of, in their order. -/
def ofB (P : Int → Bool) (b : Nat) : List Int := ((List.range b).map fun (i : Nat) => (i : Int)).filter P
theorem ofB_rise (P : Int → Bool) (b : Nat) : Rise (ofB P b) := by
  refine List.Pairwise.filter _ (List.pairwise_map.2 ?_)
  exact List.pairwise_lt_range.imp (fun h => by omega)
theorem ofB_mem {P : Int → Bool} {b : Nat} {x : Int} : x ∈ ofB P b ↔ (∃ i : Nat, i < b ∧ x = i) ∧ P x = true := by
  unfold ofB
  rw [List.mem_filter, List.mem_map]
  constructor
  · rintro ⟨⟨i, hi, rfl⟩, h⟩; exact ⟨⟨i, List.mem_range.1 hi, rfl⟩, h⟩
  · rintro ⟨⟨i, hi, rfl⟩, h⟩; exact ⟨⟨i, List.mem_range.2 hi, rfl⟩, h⟩
theorem ofB_succ (P : Int → Bool) (b : Nat) : ofB P (b + 1) = ofB P b ++ (if P (b : Int) then [(b : Int)] else []) := by
  unfold ofB
  rw [List.range_succ, List.map_append, List.filter_append]
  congr 1
  cases h : P (b : Int) <;> simp [h]
end Go.Proofs.Ytkkolodolmppnaa.Ow
