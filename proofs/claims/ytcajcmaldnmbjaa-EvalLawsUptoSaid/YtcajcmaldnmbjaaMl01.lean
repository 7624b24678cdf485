/-
  Plain facts on filters: what a row of tokens is read as, and that a filter's own tokens are read as it. No program here.
-/
import Derived.Sort.KeysCollected
import Derived.Lib.ParseIntB
import Derived.Lib.Bytealg
/-
  Plain facts on lists of names: rising lists, each name once. No program here.
-/
namespace Go.Proofs.Ytcajcmaldnmbjaa.Ck
set_option linter.unusedVariables false
set_option linter.unusedSimpArgs false

abbrev Nm := List UInt8
def Rising (l : List Nm) : Prop := l.Pairwise fun a b => a < b

/-- A name laid into a rising list, once. -/
def insN : List Nm → Nm → List Nm
  | [], x => [x]
  | y :: r, x => if y < x then y :: insN r x else if y = x then y :: r else x :: y :: r
def sortN (l : List Nm) : List Nm := l.foldl insN []

theorem mem_insN (z x : Nm) : ∀ l : List Nm, z ∈ insN l x ↔ (z ∈ l ∨ z = x)
  | [] => by simp [insN]
  | y :: r => by
    unfold insN
    split
    · rw [List.mem_cons, mem_insN z x r, List.mem_cons, or_assoc]
    · split
      · rename_i h
        subst h
        simp only [List.mem_cons]
        constructor
        · exact fun h => .inl h
        · rintro (h | h)
          · exact h
          · exact .inl h
      · simp only [List.mem_cons]
        constructor
        · rintro (h | h | h)
          · exact .inr h
          · exact .inl (.inl h)
          · exact .inl (.inr h)
        · rintro ((h | h) | h)
          · exact .inr (.inl h)
          · exact .inr (.inr h)
          · exact .inl h
theorem lt_of_not {a b : Nm} (h : ¬ a < b) (h2 : ¬ a = b) : b < a := by
  rcases List.le_total a b with h3 | h3
  · exact absurd (List.le_antisymm h3 (List.not_lt.1 h)) h2
  · rcases Classical.em (b < a) with h4 | h4
    · exact h4
    · exact absurd (List.le_antisymm (List.not_lt.1 h4) h3) h2
theorem rising_insN {x : Nm} : ∀ {l : List Nm}, Rising l → Rising (insN l x)
  | [], _ => by simp [insN, Rising]
  | y :: r, h => by
    obtain ⟨h1, h2⟩ := List.pairwise_cons.1 h
    unfold insN
    split
    · rename_i hy
      refine List.pairwise_cons.2 ⟨fun z hz => ?_, rising_insN h2⟩
      rcases (mem_insN z x r).1 hz with h3 | rfl
      · exact h1 z h3
      · exact hy
    · split
      · exact h
      · rename_i hy hxy
        have hlt := lt_of_not hy hxy
        refine List.pairwise_cons.2 ⟨fun z hz => ?_, h⟩
        rcases List.mem_cons.1 hz with rfl | hz
        · exact hlt
        · exact List.lt_trans hlt (h1 z hz)
theorem foldl_insN : ∀ (l acc : List Nm), Rising acc → Rising (l.foldl insN acc) ∧ ∀ z, z ∈ l.foldl insN acc ↔ (z ∈ acc ∨ z ∈ l)
  | [], acc, h => ⟨h, fun z => by simp⟩
  | x :: r, acc, h => by
    obtain ⟨h1, h2⟩ := foldl_insN r (insN acc x) (rising_insN h)
    refine ⟨h1, fun z => ?_⟩
    rw [List.foldl_cons, h2 z, mem_insN, List.mem_cons, or_assoc]
theorem rising_sortN (l : List Nm) : Rising (sortN l) := (foldl_insN l [] List.Pairwise.nil).1
theorem mem_sortN (l : List Nm) (z : Nm) : z ∈ sortN l ↔ z ∈ l := by
  unfold sortN
  rw [(foldl_insN l [] List.Pairwise.nil).2 z]
  simp
theorem sortN_snoc (l : List Nm) (x : Nm) : sortN (l ++ [x]) = insN (sortN l) x := by simp [sortN, List.foldl_append]
theorem Rising.nodup {l : List Nm} (h : Rising l) : l.Nodup := h.imp fun {a b} hab e => by subst e; exact List.lt_irrefl _ hab
theorem rising_ext {l m : List Nm} (hl : Rising l) (hm : Rising m) (h : ∀ x, x ∈ l ↔ x ∈ m) : l = m := by
  refine List.Perm.eq_of_pairwise (le := fun a b => a < b) (fun a b _ _ h1 h2 => absurd (List.lt_trans h1 h2) (List.lt_irrefl _)) hl hm ?_
  exact (List.perm_ext_iff_of_nodup hl.nodup hm.nodup).2 h
theorem rising_merge {l : List Nm} (h : l.Nodup) : Rising (l.mergeSort leB) := by
  have tr : ∀ a b c : Nm, leB a b = true → leB b c = true → leB a c = true := fun a b c h1 h2 => by simp only [leB, decide_eq_true_eq] at *; exact List.le_trans h1 h2
  have to : ∀ a b : Nm, (leB a b || leB b a) = true := fun a b => by simp only [leB, Bool.or_eq_true, decide_eq_true_eq]; exact List.le_total a b
  have h1 : (l.mergeSort leB).Pairwise fun a b => leB a b = true := List.pairwise_mergeSort tr to l
  have h2 : (l.mergeSort leB).Nodup := (List.mergeSort_perm l leB).nodup_iff.2 h
  refine (h1.and h2).imp fun {a b} hab => ?_
  have h3 : a ≤ b := by simpa [leB] using hab.1
  rcases Classical.em (a < b) with h4 | h4
  · exact h4
  · exact absurd (List.le_antisymm h3 (List.not_lt.1 h4)) hab.2
/-- A set's names, sorted. -/
theorem merge_sortN {ss l : List Nm} (h : ss.Nodup) (hm : ∀ x, x ∈ ss ↔ x ∈ l) : ss.mergeSort leB = sortN l :=
  rising_ext (rising_merge h) (rising_sortN l) fun x => by rw [(List.mergeSort_perm ss leB).mem_iff, hm x, mem_sortN]
theorem sortN_congr {l m : List Nm} (h : ∀ x, x ∈ l ↔ x ∈ m) : sortN l = sortN m := rising_ext (rising_sortN l) (rising_sortN m) fun x => by rw [mem_sortN, mem_sortN, h x]
theorem length_insN (l : List Nm) (x : Nm) : (insN l x).length ≤ l.length + 1 := by
  induction l with
  | nil => simp [insN]
  | cons y r ih =>
    unfold insN
    split
    · simpa using ih
    · split <;> simp
theorem length_foldl : ∀ (l acc : List Nm), (l.foldl insN acc).length ≤ acc.length + l.length
  | [], acc => by simp
  | x :: r, acc => by
    have := length_foldl r (insN acc x)
    have := length_insN acc x
    simp only [List.foldl_cons, List.length_cons]
    omega
theorem length_sortN (l : List Nm) : (sortN l).length ≤ l.length := by simpa [sortN] using length_foldl l []

/-- As the document's loop goes: k names are less; the one behind them. -/
theorem insN_at {x : Nm} : ∀ (l : List Nm) (k : Nat), k ≤ l.length → (∀ j y, j < k → l[j]? = some y → y < x) → (∀ y, l[k]? = some y → ¬ y < x) →
    insN l x = if l[k]? = some x then l else l.take k ++ x :: l.drop k
  | [], k, hk, _, _ => by
    simp at hk
    subst hk
    simp [insN]
  | y :: r, 0, _, _, h2 => by
    have h3 := h2 y rfl
    unfold insN
    rw [if_neg h3]
    by_cases e : y = x
    · subst e
      simp
    · rw [if_neg e, if_neg (by simpa using e)]
      simp
  | y :: r, k + 1, hk, h1, h2 => by
    unfold insN
    rw [if_pos (h1 0 y (by omega) rfl), insN_at r k (by simpa using hk) (fun j z hj hz => h1 (j + 1) z (by omega) (by simpa using hz)) (fun z hz => h2 z (by simpa using hz))]
    rw [List.getElem?_cons_succ]
    split
    · rfl
    · simp

/-- A name's type: 0 a number, 1 a text; -1: it isn't there. -/
def fnd : List Nm → List Bool → Nm → Int
  | a :: l, b :: t, s => if a = s then (if b then 1 else 0) else fnd l t s
  | _, _, _ => -1
def hasN (l : List Nm) (t : List Bool) (s : Nm) : Bool := decide (0 ≤ fnd l t s)
def isT (l : List Nm) (t : List Bool) (s : Nm) : Bool := decide (fnd l t s = 1)

theorem fnd_hit : ∀ (l : List Nm) (t : List Bool) (s : Nm) (k : Nat) (b : Bool), (∀ j y, j < k → l[j]? = some y → y ≠ s) → l[k]? = some s → t[k]? = some b → fnd l t s = if b then 1 else 0
  | a :: l, c :: t, s, 0, b, _, h1, h2 => by
    simp at h1 h2
    subst h1 h2
    simp [fnd]
  | a :: l, c :: t, s, k + 1, b, h0, h1, h2 => by
    rw [fnd, if_neg (h0 0 a (by omega) rfl)]
    exact fnd_hit l t s k b (fun j y hj hy => h0 (j + 1) y (by omega) (by simpa using hy)) (by simpa using h1) (by simpa using h2)
  | [], _, s, k, b, _, h1, _ => by simp at h1
  | a :: l, [], s, k, b, _, _, h2 => by simp at h2
theorem fnd_miss : ∀ (l : List Nm) (t : List Bool) (s : Nm), (∀ y ∈ l, y ≠ s) → fnd l t s = -1
  | a :: l, c :: t, s, h => by
    rw [fnd, if_neg (h a (by simp))]
    exact fnd_miss l t s fun y hy => h y (by simp [hy])
  | [], _, s, _ => by simp [fnd]
  | a :: l, [], s, _ => by simp [fnd]
theorem fnd_range (l : List Nm) (t : List Bool) (s : Nm) : fnd l t s = -1 ∨ fnd l t s = 0 ∨ fnd l t s = 1 := by
  induction l generalizing t with
  | nil => simp [fnd]
  | cons a l ih =>
    cases t with
    | nil => simp [fnd]
    | cons b t =>
      rw [fnd]
      split
      · cases b <;> simp
      · exact ih t
theorem hasN_iff {l : List Nm} {t : List Bool} (hlen : l.length = t.length) (s : Nm) : hasN l t s = true ↔ s ∈ l := by
  unfold hasN
  rw [decide_eq_true_eq]
  induction l generalizing t with
  | nil => simp [fnd]
  | cons a l ih =>
    cases t with
    | nil => simp at hlen
    | cons b t =>
      rw [fnd]
      split
      · rename_i h
        subst h
        cases b <;> simp
      · rename_i h
        rw [ih (by simpa using hlen), List.mem_cons]
        constructor
        · exact .inr
        · rintro (rfl | h2)
          · exact absurd rfl h
          · exact h2
/-- How many names are less than s. -/
theorem rising_cut {l : List Nm} (hl : Rising l) (s : Nm) : ∃ k, k ≤ l.length ∧ (∀ j, j < k → ∀ y, l[j]? = some y → y < s) ∧ ∀ j, k ≤ j → ∀ y, l[j]? = some y → ¬ y < s := by
  induction l with
  | nil => exact ⟨0, by simp, fun j hj => by omega, fun j _ y hy => by simp at hy⟩
  | cons a r ih =>
    obtain ⟨h1, h2⟩ := List.pairwise_cons.1 hl
    by_cases ha : a < s
    · obtain ⟨k, hk, p, q⟩ := ih h2
      refine ⟨k + 1, by simpa using hk, fun j hj y hy => ?_, fun j hj y hy => ?_⟩
      · cases j with
        | zero => simp at hy; subst hy; exact ha
        | succ j => exact p j (by omega) y (by simpa using hy)
      · cases j with
        | zero => omega
        | succ j => exact q j (by omega) y (by simpa using hy)
    · refine ⟨0, by simp, fun j hj => by omega, fun j _ y hy => ?_⟩
      cases j with
      | zero => simp at hy; subst hy; exact ha
      | succ j =>
        have := h1 y (List.mem_of_getElem? (by simpa using hy))
        exact fun h3 => ha (List.lt_trans this h3)
/-- What a binary search finds. -/
theorem search_has {l : List Nm} {t : List Bool} (hl : Rising l) (hlen : l.length = t.length) {s : Nm} {k : Nat} (h1 : ∀ j, j < k → ∀ y, l[j]? = some y → y < s) (h2 : ∀ j, k ≤ j → ∀ y, l[j]? = some y → ¬ y < s) :
    hasN l t s = decide (l[k]? = some s) := by
  rw [Bool.eq_iff_iff, hasN_iff hlen, decide_eq_true_eq]
  constructor
  · intro h
    obtain ⟨j, hj, e⟩ := List.getElem_of_mem h
    have hy : l[j]? = some s := by rw [List.getElem?_eq_getElem hj, e]
    rcases Nat.lt_trichotomy j k with h3 | h3 | h3
    · exact absurd (h1 j h3 s hy) (List.lt_irrefl _)
    · subst h3; exact hy
    · have h0 : k < l.length := by omega
      have h4 := h2 k (Nat.le_refl _) l[k] (List.getElem?_eq_getElem h0)
      have h5 := List.pairwise_iff_getElem.1 hl k j h0 hj h3
      rw [e] at h5
      exact absurd h5 h4
  · exact fun h => List.mem_of_getElem? h
/-- Its type, where it stands. -/
theorem search_isT {l : List Nm} {t : List Bool} {s : Nm} {k : Nat} {b : Bool} (h1 : ∀ j, j < k → ∀ y, l[j]? = some y → y < s) (h2 : l[k]? = some s) (h3 : t[k]? = some b) : isT l t s = b := by
  unfold isT
  rw [fnd_hit l t s k b (fun j y hj hy e => by subst e; exact List.lt_irrefl _ (h1 j hj _ hy)) h2 h3]
  cases b <;> simp
theorem isT_no {l : List Nm} {t : List Bool} {s : Nm} (h : hasN l t s = false) : isT l t s = false := by
  unfold hasN at h
  unfold isT
  rw [decide_eq_false_iff_not] at h ⊢
  omega
end Go.Proofs.Ytcajcmaldnmbjaa.Ck
/-
  Plain facts on a text's tokens: the token that a list of bytes begins with, all tokens of a list, and that a token cut out is itself. No program here.
-/
namespace Go.Proofs.Ytcajcmaldnmbjaa.Tk
set_option linter.unusedVariables false
set_option linter.unusedSimpArgs false

def low (c : UInt8) : Bool := decide (97 ≤ c.toNat) && decide (c.toNat ≤ 122)
def dig (c : UInt8) : Bool := decide (48 ≤ c.toNat) && decide (c.toNat ≤ 57)
def nmB (c : UInt8) : Bool := low c || dig c
def txB (c : UInt8) : Bool := decide (32 ≤ c.toNat) && decide (c.toNat ≤ 126)
def inB (c : UInt8) : Bool := txB c && !(c.toNat == 34)

/-- How many bytes a list begins with that are all of one sort. -/
def run (p : UInt8 → Bool) : List UInt8 → Nat
  | [] => 0
  | c :: r => if p c then run p r + 1 else 0
theorem run_le (p : UInt8 → Bool) : ∀ l, run p l ≤ l.length
  | [] => Nat.le_refl _
  | c :: r => by
    unfold run
    have := run_le p r
    split <;> simp <;> omega
theorem run_all (p : UInt8 → Bool) : ∀ (l : List UInt8) (j : Nat) (c : UInt8), j < run p l → l[j]? = some c → p c = true
  | [], j, c, h, _ => by simp [run] at h
  | d :: r, 0, c, h, e => by
    simp at e
    subst e
    unfold run at h
    split at h
    · assumption
    · simp at h
  | d :: r, j + 1, c, h, e => by
    unfold run at h
    split at h
    · exact run_all p r j c (by omega) (by simpa using e)
    · simp at h
theorem run_end (p : UInt8 → Bool) : ∀ (l : List UInt8) (c : UInt8), l[run p l]? = some c → p c = false
  | [], c, e => by simp [run] at e
  | d :: r, c, e => by
    unfold run at e
    split at e
    · exact run_end p r c (by simpa using e)
    · simp at e
      subst e
      simpa using ‹¬ p _ = true›
theorem run_eq (p : UInt8 → Bool) : ∀ (l : List UInt8) (i : Nat), i ≤ l.length → (∀ j c, j < i → l[j]? = some c → p c = true) → (∀ c, l[i]? = some c → p c = false) → run p l = i
  | [], i, hi, _, _ => by simp at hi; subst hi; rfl
  | d :: r, 0, _, _, he => by
    have := he d (by simp)
    simp [run, this]
  | d :: r, i + 1, hi, h, he => by
    have h0 := h 0 d (by omega) (by simp)
    have := run_eq p r i (by simpa using hi) (fun j c hj hc => h (j + 1) c (by omega) (by simpa using hc)) (fun c hc => he c (by simpa using hc))
    simp [run, h0, this]
theorem run_take (p : UInt8 → Bool) : ∀ (l : List UInt8) (q : Nat), run p (l.take q) = min q (run p l)
  | [], q => by simp [run]
  | d :: r, 0 => by simp [run]
  | d :: r, q + 1 => by
    simp only [List.take_succ_cons, run, run_take p r q]
    split
    · omega
    · omega
/-- A row that is all of a sort, and is what the list begins with. -/
theorem run_whole (p : UInt8 → Bool) : ∀ (l : List UInt8), (∀ c ∈ l, p c = true) → run p l = l.length
  | [], _ => rfl
  | d :: r, h => by
    have := run_whole p r fun c hc => h c (List.mem_cons_of_mem _ hc)
    simp [run, h d (List.mem_cons_self ..), this]
theorem take_run_all (p : UInt8 → Bool) (l : List UInt8) : ∀ c ∈ l.take (run p l), p c = true := by
  intro c hc
  obtain ⟨j, hj, rfl⟩ := List.getElem_of_mem hc
  have h1 : j < run p l := by simp at hj; omega
  have h2 : j < l.length := by simp at hj; omega
  rw [List.getElem_take]
  exact run_all p l j _ h1 (by simp [h2])

/-! ### Numbers -/
def decA (a : Nat) (l : List UInt8) : Nat := l.foldl (fun a c => a * 10 + (c.toNat - 48)) a
def decV (l : List UInt8) : Nat := decA 0 l
theorem decA_cons (a : Nat) (c : UInt8) (r : List UInt8) : decA a (c :: r) = decA (a * 10 + (c.toNat - 48)) r := by unfold decA; rw [List.foldl_cons]
theorem decA_nil (a : Nat) : decA a [] = a := by unfold decA; rw [List.foldl_nil]
theorem decA_ge : ∀ (l : List UInt8) (a : Nat), a ≤ decA a l
  | [], a => Nat.le_refl _
  | c :: r, a => by
    have := decA_ge r (a * 10 + (c.toNat - 48))
    rw [decA_cons]
    omega
theorem decA_app : ∀ (l m : List UInt8) (a : Nat), decA a (l ++ m) = decA (decA a l) m
  | [], _, _ => rfl
  | c :: r, m, a => by rw [List.cons_append, decA_cons, decA_cons]; exact decA_app r m _
theorem decV_snoc (l : List UInt8) (c : UInt8) : decV (l ++ [c]) = decV l * 10 + (c.toNat - 48) := by
  unfold decV
  rw [decA_app]
  exact decA_cons _ _ _
theorem parse_digits : ∀ (l : List UInt8) (a : Nat), (∀ c ∈ l, dig c = true) → a ≤ 18446744073709551615 →
    Lib.parseUintM 18446744073709551615 a l = if 18446744073709551615 < decA a l then Lib.NumEnd.range else Lib.NumEnd.ok (decA a l)
  | [], a, _, h => by rw [decA_nil, if_neg (by omega)]; rfl
  | c :: r, a, h, ha => by
    have hc := h c (List.mem_cons_self ..)
    simp only [dig, Bool.and_eq_true, decide_eq_true_eq] at hc
    have hge := decA_ge r (a * 10 + (c.toNat - 48))
    rw [decA_cons, Lib.parseUintM, if_pos hc]
    split
    · rw [if_pos (by omega)]
    · split
      · rw [if_pos (by omega)]
      · exact parse_digits r _ (fun d hd => h d (List.mem_cons_of_mem _ hd)) (by omega)
theorem parse_plain {l : List UInt8} (h : ∀ c ∈ l, dig c = true) (h0 : l ≠ []) :
    Lib.parseIntB 64 l = if 9223372036854775808 ≤ decV l then Lib.NumEnd.range else Lib.NumEnd.ok (decV l : Int) := by
  match l, h, h0 with
  | c :: r, h, _ =>
    have hc := h c (List.mem_cons_self ..)
    simp only [dig, Bool.and_eq_true, decide_eq_true_eq] at hc
    have h43 : ¬ (c.toNat = 43 ∨ c.toNat = 45) := by omega
    have h45 : ¬ c.toNat = 45 := by omega
    have := parse_digits (c :: r) 0 h (by omega)
    simp only [Lib.parseIntB, if_neg h43, Lib.parseUintB, reduceCtorEq, if_false]
    rw [show (2 ^ 64 - 1 : Nat) = 18446744073709551615 from rfl, this]
    unfold decV
    have h63 : (2 : Nat) ^ (64 - 1) = 9223372036854775808 := rfl
    by_cases h1 : 18446744073709551615 < decA 0 (c :: r)
    · rw [if_pos h1, if_pos (by omega)]
    · rw [if_neg h1]
      simp only [h45, not_false_eq_true, true_and, false_and, if_false, h63]
theorem parse_minus {l : List UInt8} (h : ∀ c ∈ l, dig c = true) :
    Lib.parseIntB 64 ((45 : UInt8) :: l) = if l = [] then Lib.NumEnd.syntax else if 9223372036854775808 < decV l then Lib.NumEnd.range else Lib.NumEnd.ok (-(decV l : Int)) := by
  have h45 : (45 : UInt8).toNat = 45 := rfl
  simp only [Lib.parseIntB, h45, or_true, if_true, Lib.parseUintB]
  by_cases h0 : l = []
  · rw [if_pos h0, if_pos h0]
  · rw [if_neg h0, if_neg h0, show (2 ^ 64 - 1 : Nat) = 18446744073709551615 from rfl, parse_digits l 0 h (by omega)]
    unfold decV
    have h63 : (2 : Nat) ^ (64 - 1) = 9223372036854775808 := rfl
    by_cases h1 : 18446744073709551615 < decA 0 l
    · rw [if_pos h1, if_pos (by omega)]
    · rw [if_neg h1]
      simp only [not_true_eq_false, false_and, true_and, if_false, h63]

/-! ### The token that a list begins with -/
/-- A token's kind, number, text, and how many bytes it takes. -/
structure Lx where
  kind : Int
  num : Int
  str : List UInt8
  size : Nat
def wordB (l : List UInt8) : Bool := l == [97, 110, 100] || l == [111, 114] || l == [110, 111, 116] || l == [105, 110] || l == [116, 114, 117, 101]
def signB (l : List UInt8) : Bool := l == [40] || l == [41] || l == [44] || l == [60] || l == [60, 61] || l == [61] || l == [33, 61] || l == [62, 61] || l == [62] || l == [94, 61]
def nameL (l : List UInt8) : Option Lx :=
  if run nmB l ≤ 20 then some ⟨if wordB (l.take (run nmB l)) then 2 else 1, 0, l.take (run nmB l), run nmB l⟩ else none
def digs (l : List UInt8) : List UInt8 := l.take (run dig l)
def numL : List UInt8 → Option Lx
  | [] => none
  | c :: r =>
    if c.toNat == 45 then
      if digs r = [] ∨ (digs r).head? = some 48 ∨ 9223372036854775808 < decV (digs r) then none else some ⟨3, -(decV (digs r) : Int), [], (digs r).length + 1⟩
    else
      if digs (c :: r) = [] ∨ (1 < (digs (c :: r)).length ∧ (digs (c :: r)).head? = some 48) ∨ 9223372036854775808 ≤ decV (digs (c :: r)) then none else some ⟨3, decV (digs (c :: r)), [], (digs (c :: r)).length⟩
/-- Of what stands behind the first ". -/
def textL (r : List UInt8) : Option Lx :=
  if run inB r ≤ 200 ∧ r[run inB r]? = some 34 then some ⟨4, 0, r.take (run inB r), run inB r + 2⟩ else none
def signL (l : List UInt8) : Option Lx :=
  if 2 ≤ l.length ∧ signB (l.take 2) = true then some ⟨5, 0, l.take 2, 2⟩
  else if signB (l.take 1) = true then some ⟨5, 0, l.take 1, 1⟩ else none
def lex : List UInt8 → Option Lx
  | [] => none
  | c :: r => if low c then nameL (c :: r) else if dig c || c.toNat == 45 then numL (c :: r) else if c.toNat == 34 then textL r else signL (c :: r)

theorem lex_cons (c : UInt8) (r : List UInt8) : lex (c :: r) = if low c then nameL (c :: r) else if dig c || c.toNat == 45 then numL (c :: r) else if c.toNat == 34 then textL r else signL (c :: r) := rfl
theorem numL_cons (c : UInt8) (r : List UInt8) : numL (c :: r) = if c.toNat == 45 then
      (if digs r = [] ∨ (digs r).head? = some 48 ∨ 9223372036854775808 < decV (digs r) then none else some ⟨3, -(decV (digs r) : Int), [], (digs r).length + 1⟩)
    else
      (if digs (c :: r) = [] ∨ (1 < (digs (c :: r)).length ∧ (digs (c :: r)).head? = some 48) ∨ 9223372036854775808 ≤ decV (digs (c :: r)) then none else some ⟨3, decV (digs (c :: r)), [], (digs (c :: r)).length⟩) := rfl
theorem digs_len (l : List UInt8) : (digs l).length = run dig l := by have := run_le dig l; simp [digs]; omega
theorem digs_take (l : List UInt8) (q : Nat) (h : run dig l ≤ q) : digs (l.take q) = digs l := by
  unfold digs
  rw [run_take, List.take_take]
  congr 1
  omega
theorem lex_size {l : List UInt8} {x : Lx} (h : lex l = some x) : 1 ≤ x.size ∧ x.size ≤ l.length := by
  match l, h with
  | c :: r, h =>
    rw [lex_cons] at h
    by_cases h1 : low c = true
    · rw [if_pos h1] at h
      unfold nameL at h
      split at h
      · have e := (Option.some.inj h).symm
        subst e
        have h2 := run_le nmB (c :: r)
        refine ⟨?_, h2⟩
        show 1 ≤ run nmB (c :: r)
        simp [run, nmB, h1]
      · cases h
    · rw [if_neg h1] at h
      split at h
      · rw [numL_cons] at h
        split at h
        · split at h
          · cases h
          · have e := (Option.some.inj h).symm
            subst e
            have h2 := run_le dig r
            simp only [digs_len, List.length_cons]
            omega
        · split at h
          · cases h
          · rename_i hn
            have e := (Option.some.inj h).symm
            subst e
            have h2 := run_le dig (c :: r)
            have h3 : digs (c :: r) ≠ [] := fun e => hn (Or.inl e)
            have h4 := List.length_pos_iff.2 h3
            exact ⟨h4, by rw [digs_len]; exact h2⟩
      · split at h
        · unfold textL at h
          split at h
          · rename_i hn
            have e := (Option.some.inj h).symm
            subst e
            have h2 := (List.getElem?_eq_some_iff.1 hn.2).1
            simp only [List.length_cons]
            omega
          · cases h
        · unfold signL at h
          split at h
          · rename_i hn
            have e := (Option.some.inj h).symm
            subst e
            exact ⟨Nat.le_succ 1, hn.1⟩
          · split at h
            · have e := (Option.some.inj h).symm
              subst e
              exact ⟨Nat.le_refl _, by simp⟩
            · cases h
theorem lex_str {l : List UInt8} {x : Lx} (h : lex l = some x) : x.str.length ≤ l.length := by
  match l, h with
  | c :: r, h =>
    rw [lex_cons] at h
    split at h
    · unfold nameL at h
      split at h
      · have e := (Option.some.inj h).symm
        subst e
        simp only [List.length_take]
        omega
      · cases h
    · split at h
      · rw [numL_cons] at h
        split at h
        · split at h
          · cases h
          · have e := (Option.some.inj h).symm
            subst e
            simp
        · split at h
          · cases h
          · have e := (Option.some.inj h).symm
            subst e
            simp
      · split at h
        · unfold textL at h
          split at h
          · have e := (Option.some.inj h).symm
            subst e
            simp only [List.length_take, List.length_cons]
            omega
          · cases h
        · unfold signL at h
          split at h
          · have e := (Option.some.inj h).symm
            subst e
            simp only [List.length_take]
            omega
          · split at h
            · have e := (Option.some.inj h).symm
              subst e
              simp only [List.length_take]
              omega
            · cases h
/-- What stands behind a token makes no difference to it. -/
theorem lex_take {l : List UInt8} {x : Lx} (h : lex l = some x) {q : Nat} (hq : x.size ≤ q) : lex (l.take q) = some x := by
  have hz := lex_size h
  match l, h with
  | c :: r, h =>
    obtain ⟨p, rfl⟩ : ∃ p, q = p + 1 := ⟨q - 1, by omega⟩
    rw [← h]
    rw [List.take_succ_cons]
    rw [lex_cons] at h ⊢
    rw [lex_cons]
    by_cases h1 : low c = true
    · rw [if_pos h1] at h ⊢
      rw [if_pos h1]
      rw [← List.take_succ_cons]
      have hk : run nmB (c :: r) ≤ p + 1 := by
        unfold nameL at h
        split at h
        · have e := (Option.some.inj h).symm
          subst e
          exact hq
        · cases h
      unfold nameL
      rw [run_take, Nat.min_eq_right hk, List.take_take, Nat.min_eq_left hk]
    · rw [if_neg h1] at h ⊢
      rw [if_neg h1]
      by_cases h2 : (dig c || c.toNat == 45) = true
      · rw [if_pos h2] at h ⊢
        rw [if_pos h2]
        rw [numL_cons] at h ⊢
        rw [numL_cons]
        by_cases h3 : (c.toNat == 45) = true
        · rw [if_pos h3] at h ⊢
          rw [if_pos h3]
          split at h
          · cases h
          · have e := (Option.some.inj h).symm
            subst e
            simp only [digs_len] at hq
            rw [digs_take r p (by omega)]
        · rw [if_neg h3] at h ⊢
          rw [if_neg h3]
          split at h
          · cases h
          · have e := (Option.some.inj h).symm
            subst e
            simp only [digs_len] at hq
            rw [← List.take_succ_cons, digs_take (c :: r) (p + 1) hq]
      · rw [if_neg h2] at h ⊢
        rw [if_neg h2]
        by_cases h3 : (c.toNat == 34) = true
        · rw [if_pos h3] at h ⊢
          rw [if_pos h3]
          unfold textL at h ⊢
          split at h
          · rename_i hn
            have e := (Option.some.inj h).symm
            subst e
            simp only at hq
            have hk : run inB r ≤ p := by omega
            rw [run_take, Nat.min_eq_right hk, List.take_take, Nat.min_eq_left hk, List.getElem?_take_of_lt (by omega)]
          · cases h
        · rw [if_neg h3] at h ⊢
          rw [if_neg h3]
          rw [← List.take_succ_cons]
          unfold signL at h ⊢
          rw [List.take_take, List.take_take, List.length_take, Nat.min_eq_left (show 1 ≤ p + 1 by omega)]
          by_cases h4 : 2 ≤ (c :: r).length ∧ signB ((c :: r).take 2) = true
          · rw [if_pos h4] at h
            have e := (Option.some.inj h).symm
            subst e
            simp only at hq
            rw [Nat.min_eq_left hq, if_pos ⟨by omega, h4.2⟩, if_pos h4]
          · rw [if_neg h4]
            by_cases hp : 2 ≤ p + 1
            · rw [Nat.min_eq_left hp, if_neg (fun hh => h4 ⟨by omega, hh.2⟩)]
            · rw [if_neg (fun hh => by omega)]

/-! ### All tokens of a list -/
structure Tok where
  kind : Int
  pos : Nat
  num : Int
  str : List UInt8
def cutF : Nat → Nat → List UInt8 → Option (List Tok)
  | 0, _, _ => some []
  | _ + 1, _, [] => some []
  | f + 1, a, c :: r =>
    if c.toNat == 32 then cutF f (a + 1) r
    else match lex (c :: r) with
      | none => none
      | some x => (cutF f (a + x.size) ((c :: r).drop x.size)).map (⟨x.kind, a, x.num, x.str⟩ :: ·)
/-- The tokens of l, which begins at a. -/
def cutAt (a : Nat) (l : List UInt8) : Option (List Tok) := cutF l.length a l
theorem cutF_fuel : ∀ (f g a : Nat) (l : List UInt8), l.length ≤ f → l.length ≤ g → cutF f a l = cutF g a l
  | f, g, a, [], _, _ => by cases f <;> cases g <;> rfl
  | 0, g, a, c :: r, h, _ => by simp at h
  | f + 1, 0, a, c :: r, _, h => by simp at h
  | f + 1, g + 1, a, c :: r, hf, hg => by
    simp only [List.length_cons] at hf hg
    simp only [cutF]
    split
    · exact cutF_fuel f g (a + 1) r (by omega) (by omega)
    · cases hx : lex (c :: r) with
      | none => rfl
      | some x =>
        have hz := lex_size hx
        simp only
        rw [cutF_fuel f g (a + x.size) ((c :: r).drop x.size) (by simp; omega) (by simp; omega)]
theorem cutAt_nil (a : Nat) : cutAt a [] = some [] := rfl
theorem cutAt_space {c : UInt8} (h : c.toNat = 32) (a : Nat) (r : List UInt8) : cutAt a (c :: r) = cutAt (a + 1) r := by
  simp [cutAt, cutF, h]
theorem cutAt_none {c : UInt8} (h : ¬ c.toNat = 32) (a : Nat) (r : List UInt8) (hx : lex (c :: r) = none) : cutAt a (c :: r) = none := by
  simp [cutAt, cutF, h, hx]
theorem cutAt_some {c : UInt8} (h : ¬ c.toNat = 32) (a : Nat) (r : List UInt8) {x : Lx} (hx : lex (c :: r) = some x) :
    cutAt a (c :: r) = (cutAt (a + x.size) ((c :: r).drop x.size)).map (⟨x.kind, a, x.num, x.str⟩ :: ·) := by
  have hz := lex_size hx
  have e : (c.toNat == 32) = false := by simpa using h
  unfold cutAt
  simp only [List.length_cons, cutF, e, Bool.false_eq_true, if_false, hx]
  rw [cutF_fuel r.length ((c :: r).drop x.size).length (a + x.size) ((c :: r).drop x.size) (by simp; omega) (Nat.le_refl _)]
theorem cutAt_spaces : ∀ (a : Nat) (l : List UInt8), (∀ (j : Nat) (c : UInt8), l[j]? = some c → c.toNat = 32) → cutAt a l = some []
  | _, [], _ => rfl
  | a, c :: r, h => by
    rw [cutAt_space (h 0 c (by simp))]
    exact cutAt_spaces (a + 1) r fun j d hd => h (j + 1) d (by simpa using hd)
/-- The place of the first one of the tokens; of none: z. -/
def headPos (z : Nat) : List Tok → Nat
  | [] => z
  | t :: _ => t.pos
theorem cut_head : ∀ (n a : Nat) (l : List UInt8) (ts : List Tok), l.length ≤ n → cutAt a l = some ts →
    a ≤ headPos (a + l.length) ts ∧ headPos (a + l.length) ts ≤ a + l.length ∧ ∀ (j : Nat) (c : UInt8), j < headPos (a + l.length) ts - a → l[j]? = some c → c.toNat = 32
  | n, a, [], ts, _, h => by
    rw [cutAt_nil] at h
    cases h
    simp [headPos]
  | 0, a, c :: r, ts, hn, _ => by simp at hn
  | n + 1, a, c :: r, ts, hn, h => by
    simp only [List.length_cons] at hn
    by_cases hc : c.toNat = 32
    · rw [cutAt_space hc] at h
      obtain ⟨h1, h2, h3⟩ := cut_head n (a + 1) r ts (by omega) h
      have e : a + (c :: r).length = a + 1 + r.length := by simp only [List.length_cons]; omega
      rw [e]
      refine ⟨by omega, h2, fun j d hj hd => ?_⟩
      match j with
      | 0 => simp at hd; subst hd; exact hc
      | j + 1 => exact h3 j d (by omega) (by simpa using hd)
    · cases hx : lex (c :: r) with
      | none => rw [cutAt_none hc a r hx] at h; cases h
      | some x =>
        rw [cutAt_some hc a r hx] at h
        obtain ⟨us, _, rfl⟩ := Option.map_eq_some_iff.1 h
        simp [headPos]
/-- Tokens rise by their places; cut out, each is itself. -/
theorem cut_own : ∀ (n a : Nat) (l : List UInt8) (ts : List Tok), l.length ≤ n → cutAt a l = some ts → ∀ (i : Nat) (t : Tok), ts[i]? = some t →
    a ≤ t.pos ∧ t.pos < headPos (a + l.length) (ts.drop (i + 1)) ∧ headPos (a + l.length) (ts.drop (i + 1)) ≤ a + l.length ∧
      cutAt 0 ((l.drop (t.pos - a)).take (headPos (a + l.length) (ts.drop (i + 1)) - t.pos)) = some [⟨t.kind, 0, t.num, t.str⟩]
  | n, a, [], ts, _, h, i, t, ht => by
    rw [cutAt_nil] at h
    cases h
    simp at ht
  | 0, a, c :: r, ts, hn, _, _, _, _ => by simp at hn
  | n + 1, a, c :: r, ts, hn, h, i, t, ht => by
    simp only [List.length_cons] at hn
    by_cases hc : c.toNat = 32
    · rw [cutAt_space hc] at h
      obtain ⟨h1, h2, h3, h4⟩ := cut_own n (a + 1) r ts (by omega) h i t ht
      have e : a + (c :: r).length = a + 1 + r.length := by simp only [List.length_cons]; omega
      rw [e]
      refine ⟨by omega, h2, h3, ?_⟩
      rw [show t.pos - a = (t.pos - (a + 1)) + 1 by omega, List.drop_succ_cons]
      exact h4
    · cases hx : lex (c :: r) with
      | none => rw [cutAt_none hc a r hx] at h; cases h
      | some x =>
        have hz := lex_size hx
        rw [cutAt_some hc a r hx] at h
        obtain ⟨us, hu, rfl⟩ := Option.map_eq_some_iff.1 h
        have hl : ((c :: r).drop x.size).length = (c :: r).length - x.size := by simp
        have e : a + (c :: r).length = a + x.size + ((c :: r).drop x.size).length := by omega
        match i, ht with
        | 0, ht =>
          simp at ht
          subst ht
          obtain ⟨g1, g2, g3⟩ := cut_head n (a + x.size) _ us (by rw [hl]; simp only [List.length_cons]; omega) hu
          rw [e]
          simp only [List.drop_succ_cons, List.drop_zero, Nat.sub_self]
          refine ⟨Nat.le_refl _, by omega, g2, ?_⟩
          obtain ⟨q, hq⟩ : ∃ q, q = headPos (a + x.size + ((c :: r).drop x.size).length) us - a := ⟨_, rfl⟩
          rw [← hq]
          have hlx := lex_take hx (show x.size ≤ q by omega)
          obtain ⟨p, hp⟩ : ∃ p, q = p + 1 := ⟨q - 1, by omega⟩
          rw [hp, List.take_succ_cons] at hlx ⊢
          rw [cutAt_some hc 0 _ hlx, cutAt_spaces]
          · simp
          · intro j d hd
            rw [← List.take_succ_cons, List.drop_take, List.getElem?_take] at hd
            split at hd
            · exact g3 j d (by omega) hd
            · cases hd
        | i + 1, ht =>
          obtain ⟨h1, h2, h3, h4⟩ := cut_own n (a + x.size) _ us (by rw [hl]; simp only [List.length_cons]; omega) hu i t (by simpa using ht)
          rw [e]
          simp only [List.drop_succ_cons]
          refine ⟨by omega, h2, h3, ?_⟩
          rw [List.drop_drop] at h4
          rw [show t.pos - a = x.size + (t.pos - (a + x.size)) by omega]
          exact h4
end Go.Proofs.Ytcajcmaldnmbjaa.Tk
namespace Go.Proofs.Ytcajcmaldnmbjaa.Fl
set_option linter.unusedVariables false
set_option linter.unusedSimpArgs false

/-- A value: a text, or a number. -/
structure Att where
  name : List UInt8
  text : Bool
  num : Int
  str : List UInt8
inductive Flt where
  | mk (kind : Int) (name op : List UInt8) (vals : List Att) (parts : List Flt)
def Flt.kind : Flt → Int | .mk k _ _ _ _ => k
def Flt.name : Flt → List UInt8 | .mk _ n _ _ _ => n
def Flt.op : Flt → List UInt8 | .mk _ _ o _ _ => o
def Flt.vals : Flt → List Att | .mk _ _ _ v _ => v
def Flt.parts : Flt → List Flt | .mk _ _ _ _ l => l
/-- What a token is, but for its place. -/
structure Tc where
  kind : Int
  num : Int
  str : List UInt8

def wAnd : List UInt8 := [97, 110, 100]
def wOr : List UInt8 := [111, 114]
def wNot : List UInt8 := [110, 111, 116]
def wIn : List UInt8 := [105, 110]
def wTrue : List UInt8 := [116, 114, 117, 101]
def sOpen : List UInt8 := [40]
def sShut : List UInt8 := [41]
def sComma : List UInt8 := [44]
def sPre : List UInt8 := [94, 61]
def opB (s : List UInt8) : Bool := s == [60] || s == [60, 61] || s == [61] || s == [33, 61] || s == [62, 61] || s == [62]

/-- A word, or a sign, is taken, if it is next. -/
def takes (s : List UInt8) : List Tc → Option (List Tc)
  | [] => none
  | t :: r => if (t.kind = 2 ∨ t.kind = 5) ∧ t.str = s then some r else none
def valP : List Tc → Option (Att × List Tc)
  | [] => none
  | t :: r => if t.kind = 4 then some (⟨[], true, 0, t.str⟩, r) else if t.kind = 3 then some (⟨[], false, t.num, []⟩, r) else none
/-- The values behind the first one, to the ). -/
def valsP (text : Bool) : Nat → List Tc → Option (List Att × List Tc)
  | 0, _ => none
  | n + 1, ts =>
    match takes sComma ts with
    | some r =>
      match valP r with
      | none => none
      | some (v, r2) =>
        if v.text = text then
          match valsP text n r2 with
          | none => none
          | some (vs, r3) => some (v :: vs, r3)
        else none
    | none =>
      match takes sShut ts with
      | none => none
      | some r => some ([], r)
def leafP : List Tc → Option (Flt × List Tc)
  | [] => none
  | t :: r =>
    if t.kind = 1 then
      match takes wIn r with
      | some r1 =>
        match takes sOpen r1 with
        | none => none
        | some r2 =>
          match valP r2 with
          | none => none
          | some (v, r3) =>
            match valsP v.text (r3.length + 1) r3 with
            | none => none
            | some (vs, r4) => some (.mk 6 t.str [] (v :: vs) [], r4)
      | none =>
        match takes sPre r with
        | some r1 =>
          match valP r1 with
          | none => none
          | some (v, r2) => if v.text then some (.mk 5 t.str [] [v] [], r2) else none
        | none =>
          match r with
          | [] => none
          | o :: r1 =>
            if o.kind = 5 ∧ opB o.str = true then
              match valP r1 with
              | none => none
              | some (v, r2) => some (.mk 4 t.str o.str [v] [], r2)
            else none
    else none
/-- A part comes to a filter of a sort: its parts, if it is one. -/
def add (f x : Flt) : Flt := if x.kind = f.kind then .mk f.kind f.name f.op f.vals (f.parts ++ x.parts) else .mk f.kind f.name f.op f.vals (f.parts ++ [x])
def tailP (w : List UInt8) (sub : List Tc → Option (Flt × List Tc)) : Nat → Flt → List Tc → Option (Flt × List Tc)
  | 0, _, _ => none
  | n + 1, acc, ts =>
    match takes w ts with
    | none => some (acc, ts)
    | some r =>
      match sub r with
      | none => none
      | some (y, r2) => tailP w sub n (add acc y) r2
def chainP (w : List UInt8) (k : Int) (sub : List Tc → Option (Flt × List Tc)) (ts : List Tc) : Option (Flt × List Tc) :=
  match sub ts with
  | none => none
  | some (x, r) =>
    match takes w r with
    | none => some (x, r)
    | some _ => tailP w sub (r.length + 1) (add (.mk k [] [] [] []) x) r
def notP : Nat → List Tc → Option (Flt × List Tc)
  | 0, _ => none
  | n + 1, ts =>
    match takes wNot ts with
    | some r =>
      match notP n r with
      | none => none
      | some (x, r2) => some (.mk 3 [] [] [] [x], r2)
    | none =>
      match takes sOpen ts with
      | some r =>
        match chainP wOr 2 (chainP wAnd 1 (notP n)) r with
        | none => none
        | some (f, r2) =>
          match takes sShut r2 with
          | none => none
          | some r3 => some (f, r3)
      | none =>
        match takes wTrue ts with
        | some r => some (.mk 7 [] [] [] [], r)
        | none => leafP ts
def orP (n : Nat) : List Tc → Option (Flt × List Tc) := chainP wOr 2 (chainP wAnd 1 (notP n))

/-! ### A filter's own tokens -/
def word (s : List UInt8) : Tc := ⟨2, 0, s⟩
def sign (s : List UInt8) : Tc := ⟨5, 0, s⟩
def valT (v : Att) : Tc := if v.text then ⟨4, 0, v.str⟩ else ⟨3, v.num, []⟩
def valsT : List Att → List Tc
  | [] => []
  | v :: r => sign sComma :: valT v :: valsT r
def andOr (k : Int) : List UInt8 := if k = 2 then wOr else wAnd
mutual
def toks : Flt → List Tc
  | .mk k n o vs l =>
    if k = 7 then [word wTrue]
    else if k = 3 then word wNot :: notT l
    else if k = 4 then ⟨1, 0, n⟩ :: sign o :: vs.map valT
    else if k = 5 then ⟨1, 0, n⟩ :: sign sPre :: vs.map valT
    else if k = 6 then (match vs with
      | [] => []
      | v :: r => ⟨1, 0, n⟩ :: word wIn :: sign sOpen :: valT v :: (valsT r ++ [sign sShut]))
    else (match l with
      | [] => []
      | p :: r => partT p ++ restT (andOr k) r)
/-- A not's part. -/
def notT : List Flt → List Tc
  | [] => []
  | p :: _ => if p.kind = 7 ∨ p.kind = 3 then toks p else sign sOpen :: (toks p ++ [sign sShut])
/-- A part of an and, an or. -/
def partT : Flt → List Tc
  | .mk k n o vs l => if k = 1 ∨ k = 2 then sign sOpen :: (toks (.mk k n o vs l) ++ [sign sShut]) else toks (.mk k n o vs l)
def restT (w : List UInt8) : List Flt → List Tc
  | [] => []
  | p :: r => word w :: (partT p ++ restT w r)
end

/-! ### Filters that may be -/
def nameB (l : List UInt8) : Bool := match Tk.lex l with
  | none => false
  | some x => x.kind == 1 && x.size == l.length
def plainB (l : List UInt8) : Bool := l.all (fun c => decide (32 ≤ c.toNat) && decide (c.toNat ≤ 126) && !(c.toNat == 34)) && decide (l.length ≤ 200)
def valB (v : Att) : Bool := v.name == [] && (if v.text then v.num == 0 && plainB v.str else v.str == [])
def leafB (k : Int) (n o : List UInt8) : List Att → Bool
  | [] => false
  | v :: r => nameB n && valB v && r.all (fun u => valB u && u.text == v.text) && decide (r.length < 20) && (if k = 6 then o == [] else if k = 5 then r.isEmpty && v.text && o == [] else r.isEmpty && opB o)
mutual
def fine : Flt → Bool
  | .mk k n o vs l =>
    if k = 4 ∨ k = 5 ∨ k = 6 then leafB k n o vs && l.isEmpty
    else n == [] && o == [] && vs.isEmpty && (if k = 1 ∨ k = 2 then decide (2 ≤ l.length) else if k = 3 then decide (l.length = 1) else decide (k = 7) && l.isEmpty) && fineL k l
def fineL (k : Int) : List Flt → Bool
  | [] => true
  | p :: r => fine p && (decide (k = 3) || !decide (p.kind = k)) && fineL k r
end
mutual
def sz : Flt → Nat
  | .mk _ _ _ _ l => szL l + 1
def szL : List Flt → Nat
  | [] => 0
  | p :: r => sz p + szL r
end

/-! ### What is taken -/
theorem takes_word (s : List UInt8) (r : List Tc) : takes s (word s :: r) = some r := by simp [takes, word]
theorem takes_sign (s : List UInt8) (r : List Tc) : takes s (sign s :: r) = some r := by simp [takes, sign]
theorem takes_ne {s u : List UInt8} (k : Int) (x : Int) (r : List Tc) (h : u ≠ s) : takes s (⟨k, x, u⟩ :: r) = none := by simp [takes, h]
theorem takes_kind {s u : List UInt8} {k : Int} (x : Int) (r : List Tc) (h : k ≠ 2) (h5 : k ≠ 5) : takes s (⟨k, x, u⟩ :: r) = none := by simp [takes, h, h5]
theorem val_back {v : Att} (h : valB v = true) (r : List Tc) : valP (valT v :: r) = some (v, r) := by
  obtain ⟨n, tx, x, s⟩ := v
  cases tx <;> simp [valB] at h <;> simp [valT, valP, h]
theorem vals_back (tx : Bool) : ∀ (vs : List Att) (n : Nat) (rest : List Tc), vs.all (fun u => valB u && u.text == tx) = true → vs.length < n → valsP tx n (valsT vs ++ sign sShut :: rest) = some (vs, rest)
  | [], n + 1, rest, _, _ => by
    have h1 : takes sComma (sign sShut :: rest) = none := takes_ne _ _ _ (by decide)
    simp only [valsT, List.nil_append, valsP, h1, takes_sign]
  | [], 0, _, _, h => by simp at h
  | v :: r, 0, _, _, h => by simp at h
  | v :: r, n + 1, rest, h, hn => by
    simp only [List.all_cons, Bool.and_eq_true, beq_iff_eq] at h
    have ih := vals_back tx r n rest h.2 (by simpa using hn)
    simp only [valsT, List.cons_append, valsP, takes_sign, val_back h.1.1, h.1.2, if_true, ih]
theorem valsT_len : ∀ vs : List Att, vs.length ≤ (valsT vs).length
  | [] => Nat.le_refl _
  | v :: r => by have := valsT_len r; simp [valsT]; omega

theorem op_ne {o s : List UInt8} (h : opB o = true) (hs : opB s = false) : o ≠ s := fun e => by rw [e, hs] at h; cases h
theorem leaf_back {k : Int} {n o : List UInt8} {vs : List Att} (hk : k = 4 ∨ k = 5 ∨ k = 6) (h : leafB k n o vs = true) (rest : List Tc) :
    leafP (toks (.mk k n o vs []) ++ rest) = some (.mk k n o vs [], rest) := by
  match vs, h with
  | v :: r, h =>
    unfold leafB at h
    rcases hk with rfl | rfl | rfl
    · simp at h
      obtain ⟨⟨⟨⟨h1, h2⟩, h3⟩, h4⟩, h5, h6⟩ := h
      subst h5
      have e1 : takes wIn (sign o :: valT v :: rest) = none := takes_ne _ _ _ (op_ne h6 (by decide))
      have e2 : takes sPre (sign o :: valT v :: rest) = none := takes_ne _ _ _ (op_ne h6 (by decide))
      simp [toks, leafP, e1, e2, h6, val_back h2]
      simp [sign, h6]
    · simp at h
      obtain ⟨⟨⟨⟨h1, h2⟩, h3⟩, h4⟩, ⟨h5, h6⟩, h7⟩ := h
      subst h5
      subst h7
      have e1 : takes wIn (sign sPre :: valT v :: rest) = none := takes_ne _ _ _ (by decide)
      simp [toks, leafP, e1, takes_sign, val_back h2, h6]
    · simp at h
      obtain ⟨⟨⟨⟨h1, h2⟩, h3⟩, h4⟩, h5⟩ := h
      subst h5
      have ha : r.all (fun u => valB u && u.text == v.text) = true := by
        rw [List.all_eq_true]
        intro u hu
        have := h3 u hu
        simp [this]
      have hv := vals_back v.text r ((valsT r ++ sign sShut :: rest).length + 1) rest ha (by have := valsT_len r; simp; omega)
      have e : toks (.mk 6 n [] (v :: r) []) = ⟨1, 0, n⟩ :: word wIn :: sign sOpen :: valT v :: (valsT r ++ [sign sShut]) := by simp [toks]
      rw [e]
      simp only [List.cons_append, List.append_assoc, List.nil_append, leafP, takes_word, takes_sign, val_back h2, if_true, hv]

/-! ### Chains -/
theorem add_part {k : Int} {l : List Flt} {x : Flt} (h : x.kind ≠ k) : add (.mk k [] [] [] l) x = .mk k [] [] [] (l ++ [x]) := by
  unfold add
  rw [if_neg (show ¬ x.kind = (Flt.mk k [] [] [] l).kind from h)]
  rfl
theorem tail_back (w : List UInt8) (k : Int) (sub : List Tc → Option (Flt × List Tc)) (G : List Tc → Prop) (hG : ∀ r, G (word w :: r)) (rest : List Tc) (hr : G rest) (ht : takes w rest = none) :
    ∀ (l : List Flt) (n : Nat) (acc : List Flt), (∀ p ∈ l, p.kind ≠ k ∧ ∀ r, G r → sub (partT p ++ r) = some (p, r)) → l.length < n →
      tailP w sub n (.mk k [] [] [] acc) (restT w l ++ rest) = some (.mk k [] [] [] (acc ++ l), rest)
  | [], n + 1, acc, _, _ => by simp [restT, tailP, ht]
  | _, 0, _, _, h => by simp at h
  | p :: r, n + 1, acc, h, hn => by
    obtain ⟨hk, hs⟩ := h p (List.mem_cons_self ..)
    have hg : G (restT w r ++ rest) := by
      cases r with
      | nil => simpa [restT] using hr
      | cons q r => simpa [restT] using hG _
    have ih := tail_back w k sub G hG rest hr ht r n (acc ++ [p]) (fun q hq => h q (List.mem_cons_of_mem _ hq)) (by simpa using hn)
    simp only [restT, List.cons_append, List.append_assoc, tailP, takes_word, hs _ hg, add_part hk]
    rw [ih]
    simp
theorem restT_len (w : List UInt8) : ∀ l : List Flt, l.length ≤ (restT w l).length
  | [] => Nat.zero_le _
  | p :: r => by have := restT_len w r; simp [restT]; omega
theorem chain_one (w : List UInt8) (k : Int) (sub : List Tc → Option (Flt × List Tc)) {ts rest : List Tc} {f : Flt} (h : sub ts = some (f, rest)) (ht : takes w rest = none) : chainP w k sub ts = some (f, rest) := by
  simp [chainP, h, ht]
theorem chain_many (w : List UInt8) (k : Int) (sub : List Tc → Option (Flt × List Tc)) (G : List Tc → Prop) (hG : ∀ r, G (word w :: r)) (rest : List Tc) (hr : G rest) (ht : takes w rest = none)
    (p q : Flt) (l : List Flt) (h : ∀ x ∈ p :: q :: l, x.kind ≠ k ∧ ∀ r, G r → sub (partT x ++ r) = some (x, r)) :
    chainP w k sub (partT p ++ (restT w (q :: l) ++ rest)) = some (.mk k [] [] [] (p :: q :: l), rest) := by
  obtain ⟨hk, hs⟩ := h p (List.mem_cons_self ..)
  have h1 := hs (restT w (q :: l) ++ rest) (by simpa [restT] using hG _)
  have h2 : takes w (restT w (q :: l) ++ rest) = some (partT q ++ restT w l ++ rest) := by simp [restT, takes_word]
  have h3 := tail_back w k sub G hG rest hr ht (q :: l) ((restT w (q :: l) ++ rest).length + 1) [p] (fun x hx => h x (List.mem_cons_of_mem _ hx)) (by have := restT_len w (q :: l); simp at this ⊢; omega)
  simp only [chainP, h1, h2, add_part hk]
  simpa using h3

/-! ### A filter's own tokens are read as it -/
theorem fine_mem {k : Int} : ∀ {l : List Flt}, fineL k l = true → ∀ p ∈ l, fine p = true ∧ (k = 3 ∨ p.kind ≠ k)
  | [], _, p, hp => by simp at hp
  | q :: r, h, p, hp => by
    simp only [fineL, Bool.and_eq_true, Bool.or_eq_true, decide_eq_true_eq, Bool.not_eq_true', decide_eq_false_iff_not] at h
    rcases List.mem_cons.1 hp with rfl | hp
    · exact ⟨h.1.1, h.1.2⟩
    · exact fine_mem h.2 p hp
theorem sz_mem : ∀ {l : List Flt} {p : Flt}, p ∈ l → sz p ≤ szL l
  | [], _, h => by simp at h
  | q :: r, p, h => by
    rcases List.mem_cons.1 h with rfl | h
    · simp only [szL]; omega
    · have := sz_mem h; simp only [szL]; omega
theorem sz_pos : ∀ f : Flt, 1 ≤ sz f
  | .mk _ _ _ _ l => by simp only [sz]; omega
/-- Neither an and nor an or goes on. -/
def Ends (r : List Tc) : Prop := takes wAnd r = none ∧ takes wOr r = none
theorem ends_shut (r : List Tc) : Ends (sign sShut :: r) := ⟨takes_ne _ _ _ (by decide), takes_ne _ _ _ (by decide)⟩
structure Reads (f : Flt) (n : Nat) : Prop where
  unit : ¬ (f.kind = 1 ∨ f.kind = 2) → ∀ rest, notP n (toks f ++ rest) = some (f, rest)
  all : ∀ rest, Ends rest → orP n (toks f ++ rest) = some (f, rest)
theorem open_shut {f : Flt} {n : Nat} (h : ∀ rest, Ends rest → orP n (toks f ++ rest) = some (f, rest)) (rest : List Tc) : notP (n + 1) (sign sOpen :: (toks f ++ [sign sShut]) ++ rest) = some (f, rest) := by
  have h1 : takes wNot (sign sOpen :: (toks f ++ [sign sShut] ++ rest)) = none := takes_ne _ _ _ (by decide)
  have h2 := h (sign sShut :: rest) (ends_shut rest)
  unfold orP at h2
  have e : toks f ++ [sign sShut] ++ rest = toks f ++ sign sShut :: rest := by simp
  rw [List.cons_append, notP, h1, takes_sign, e]
  simp only [h2, takes_sign]
theorem part_back {p : Flt} {n : Nat} (h1 : Reads p n) (h2 : Reads p (n + 1)) (rest : List Tc) : notP (n + 1) (partT p ++ rest) = some (p, rest) := by
  match p, h1, h2 with
  | .mk k nm o vs l, h1, h2 =>
    unfold partT
    by_cases hk : k = 1 ∨ k = 2
    · rw [if_pos hk]
      exact open_shut h1.all rest
    · rw [if_neg hk]
      exact h2.unit hk rest
theorem reads : ∀ (N : Nat) (f : Flt), sz f ≤ N → fine f = true → ∀ n, 2 * sz f ≤ n → Reads f n
  | 0, f, h, _, _, _ => by have := sz_pos f; omega
  | N + 1, .mk k nm o vs l, hN, hf, n, hn => by
    simp only [sz] at hN hn
    obtain ⟨m, rfl⟩ : ∃ m, n = m + 1 := ⟨n - 1, by omega⟩
    have ih : ∀ p ∈ l, fine p = true → ∀ j, 2 * sz p ≤ j → Reads p j := fun p hp hfp j hj => reads N p (by have := sz_mem hp; omega) hfp j hj
    -- what a unit is read as, a chain of one is
    have one : (∀ rest, notP (m + 1) (toks (.mk k nm o vs l) ++ rest) = some (.mk k nm o vs l, rest)) → Reads (.mk k nm o vs l) (m + 1) := fun h =>
      ⟨fun _ => h, fun rest hr => chain_one _ _ _ (chain_one _ _ _ (h rest) hr.1) hr.2⟩
    by_cases hleaf : k = 4 ∨ k = 5 ∨ k = 6
    · unfold fine at hf
      rw [if_pos hleaf, Bool.and_eq_true, List.isEmpty_iff] at hf
      obtain ⟨hb, rfl⟩ := hf
      refine one fun rest => ?_
      obtain ⟨T, hT⟩ : ∃ T, toks (.mk k nm o vs []) = ⟨1, 0, nm⟩ :: T := by
        match vs, hb with
        | v :: r, hb => rcases hleaf with rfl | rfl | rfl <;> exact ⟨_, by simp [toks]; rfl⟩
      have hl := leaf_back hleaf hb rest
      rw [hT, List.cons_append] at hl ⊢
      have e1 : takes wNot (⟨1, 0, nm⟩ :: (T ++ rest)) = none := takes_kind _ _ (by decide) (by decide)
      have e2 : takes sOpen (⟨1, 0, nm⟩ :: (T ++ rest)) = none := takes_kind _ _ (by decide) (by decide)
      have e3 : takes wTrue (⟨1, 0, nm⟩ :: (T ++ rest)) = none := takes_kind _ _ (by decide) (by decide)
      rw [notP, e1, e2, e3]
      exact hl
    · unfold fine at hf
      rw [if_neg hleaf] at hf
      simp only [Bool.and_eq_true, beq_iff_eq, List.isEmpty_iff] at hf
      obtain ⟨⟨⟨⟨rfl, rfl⟩, rfl⟩, hk⟩, hL⟩ := hf
      by_cases h12 : k = 1 ∨ k = 2
      · rw [if_pos h12, decide_eq_true_eq] at hk
        match l, hk, hL, ih with
        | p :: q :: r, _, hL, ih =>
          have hp := fine_mem hL
          have hsub : ∀ x ∈ p :: q :: r, ∀ rest, notP (m + 1) (partT x ++ rest) = some (x, rest) := fun x hx rest => by
            have h1 := sz_mem hx
            exact part_back (ih x hx (hp x hx).1 m (by omega)) (ih x hx (hp x hx).1 (m + 1) (by omega)) rest
          have hne : ∀ x ∈ p :: q :: r, x.kind ≠ k := fun x hx => by
            rcases (hp x hx).2 with h | h
            · omega
            · exact h
          refine ⟨fun h => absurd h12 h, fun rest hr => ?_⟩
          rcases h12 with rfl | rfl
          · have e : toks (.mk 1 [] [] [] (p :: q :: r)) = partT p ++ restT wAnd (q :: r) := by simp [toks, andOr]
            rw [e, List.append_assoc]
            refine chain_one _ _ _ ?_ hr.2
            exact chain_many wAnd 1 (notP (m + 1)) (fun _ => True) (fun _ => trivial) rest trivial hr.1 p q r fun x hx => ⟨hne x hx, fun rest _ => hsub x hx rest⟩
          · have e : toks (.mk 2 [] [] [] (p :: q :: r)) = partT p ++ restT wOr (q :: r) := by simp [toks, andOr]
            rw [e, List.append_assoc]
            exact chain_many wOr 2 (chainP wAnd 1 (notP (m + 1))) (fun r => takes wAnd r = none) (fun _ => takes_ne _ _ _ (by decide)) rest hr.1 hr.2 p q r fun x hx => ⟨hne x hx, fun rest hg => chain_one _ _ _ (hsub x hx rest) hg⟩
      · rw [if_neg h12] at hk
        by_cases h3 : k = 3
        · subst h3
          simp at hk
          match l, hk, hL, ih with
          | [p], _, hL, ih =>
            have hp := fine_mem hL p (by simp)
            simp only [szL] at hn
            refine one fun rest => ?_
            have e : toks (.mk 3 [] [] [] [p]) = word wNot :: notT [p] := by simp [toks]
            have e2 : notP m (notT [p] ++ rest) = some (p, rest) := by
              unfold notT
              by_cases h73 : p.kind = 7 ∨ p.kind = 3
              · rw [if_pos h73]
                exact (ih p (by simp) hp.1 m (by omega)).unit (by omega) rest
              · rw [if_neg h73]
                obtain ⟨j, rfl⟩ : ∃ j, m = j + 1 := ⟨m - 1, by omega⟩
                exact open_shut (ih p (by simp) hp.1 j (by omega)).all rest
            rw [e, List.cons_append, notP, takes_word]
            simp only [e2]
        · rw [if_neg h3] at hk
          simp at hk
          obtain ⟨rfl, rfl⟩ := hk
          refine one fun rest => ?_
          have e : toks (.mk 7 [] [] [] []) = [word wTrue] := by simp [toks]
          have e1 : takes wNot (word wTrue :: rest) = none := takes_ne _ _ _ (by decide)
          have e2 : takes sOpen (word wTrue :: rest) = none := takes_ne _ _ _ (by decide)
          rw [e, List.singleton_append, notP, e1, e2, takes_word]
/-- A filter that may be, told by its tokens, is read as it, to their end. -/
theorem back {f : Flt} (h : fine f = true) {n : Nat} (hn : 2 * sz f ≤ n) : orP n (toks f) = some (f, []) := by
  have := (reads (sz f) f (Nat.le_refl _) h n hn).all [] ⟨rfl, rfl⟩
  simpa using this
end Go.Proofs.Ytcajcmaldnmbjaa.Fl
