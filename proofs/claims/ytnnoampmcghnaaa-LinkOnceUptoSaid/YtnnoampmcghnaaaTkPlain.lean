/-
  Plain facts on a text's tokens: the token that a list of bytes begins with, all tokens of a list, and that a token cut out is itself. No program here.
-/
import Derived.Lib.ParseIntB
import Derived.Lib.Bytealg
namespace Go.Proofs.Ytnnoampmcghnaaa.Tk
set_option linter.unusedVariables false
set_option linter.unusedSimpArgs false

def low (c : UInt8) : Bool := decide (97 ≤ c.toNat) && decide (c.toNat ≤ 122)
def dig (c : UInt8) : Bool := decide (48 ≤ c.toNat) && decide (c.toNat ≤ 57)
def nmB (c : UInt8) : Bool := low c || dig c
def txB (c : UInt8) : Bool := decide (32 ≤ c.toNat) && decide (c.toNat ≤ 126)
def inB (c : UInt8) : Bool := txB c && !(c.toNat == 34)

/-- How many bytes a list begins with that are all of one sort. -/
def run (p : UInt8 → Bool) : List UInt8 → Nat
  | [] => 0
  | c :: r => if p c then run p r + 1 else 0
theorem run_le (p : UInt8 → Bool) : ∀ l, run p l ≤ l.length
  | [] => Nat.le_refl _
  | c :: r => by
    unfold run
    have := run_le p r
    split <;> simp <;> omega
theorem run_all (p : UInt8 → Bool) : ∀ (l : List UInt8) (j : Nat) (c : UInt8), j < run p l → l[j]? = some c → p c = true
  | [], j, c, h, _ => by simp [run] at h
  | d :: r, 0, c, h, e => by
    simp at e
    subst e
    unfold run at h
    split at h
    · assumption
    · simp at h
  | d :: r, j + 1, c, h, e => by
    unfold run at h
    split at h
    · exact run_all p r j c (by omega) (by simpa using e)
    · simp at h
theorem run_end (p : UInt8 → Bool) : ∀ (l : List UInt8) (c : UInt8), l[run p l]? = some c → p c = false
  | [], c, e => by simp [run] at e
  | d :: r, c, e => by
    unfold run at e
    split at e
    · exact run_end p r c (by simpa using e)
    · simp at e
      subst e
      simpa using ‹¬ p _ = true›
theorem run_eq (p : UInt8 → Bool) : ∀ (l : List UInt8) (i : Nat), i ≤ l.length → (∀ j c, j < i → l[j]? = some c → p c = true) → (∀ c, l[i]? = some c → p c = false) → run p l = i
  | [], i, hi, _, _ => by simp at hi; subst hi; rfl
  | d :: r, 0, _, _, he => by
    have := he d (by simp)
    simp [run, this]
  | d :: r, i + 1, hi, h, he => by
    have h0 := h 0 d (by omega) (by simp)
    have := run_eq p r i (by simpa using hi) (fun j c hj hc => h (j + 1) c (by omega) (by simpa using hc)) (fun c hc => he c (by simpa using hc))
    simp [run, h0, this]
theorem run_take (p : UInt8 → Bool) : ∀ (l : List UInt8) (q : Nat), run p (l.take q) = min q (run p l)
  | [], q => by simp [run]
  | d :: r, 0 => by simp [run]
  | d :: r, q + 1 => by
    simp only [List.take_succ_cons, run, run_take p r q]
    split
    · omega
    · omega
/-- A row that is all of a sort, and is what the list begins with. -/
theorem run_whole (p : UInt8 → Bool) : ∀ (l : List UInt8), (∀ c ∈ l, p c = true) → run p l = l.length
  | [], _ => rfl
  | d :: r, h => by
    have := run_whole p r fun c hc => h c (List.mem_cons_of_mem _ hc)
    simp [run, h d (List.mem_cons_self ..), this]
theorem take_run_all (p : UInt8 → Bool) (l : List UInt8) : ∀ c ∈ l.take (run p l), p c = true := by
  intro c hc
  obtain ⟨j, hj, rfl⟩ := List.getElem_of_mem hc
  have h1 : j < run p l := by simp at hj; omega
  have h2 : j < l.length := by simp at hj; omega
  rw [List.getElem_take]
  exact run_all p l j _ h1 (by simp [h2])

/-! ### Numbers -/
def decA (a : Nat) (l : List UInt8) : Nat := l.foldl (fun a c => a * 10 + (c.toNat - 48)) a
def decV (l : List UInt8) : Nat := decA 0 l
theorem decA_cons (a : Nat) (c : UInt8) (r : List UInt8) : decA a (c :: r) = decA (a * 10 + (c.toNat - 48)) r := by unfold decA; rw [List.foldl_cons]
theorem decA_nil (a : Nat) : decA a [] = a := by unfold decA; rw [List.foldl_nil]
theorem decA_ge : ∀ (l : List UInt8) (a : Nat), a ≤ decA a l
  | [], a => Nat.le_refl _
  | c :: r, a => by
    have := decA_ge r (a * 10 + (c.toNat - 48))
    rw [decA_cons]
    omega
theorem decA_app : ∀ (l m : List UInt8) (a : Nat), decA a (l ++ m) = decA (decA a l) m
  | [], _, _ => rfl
  | c :: r, m, a => by rw [List.cons_append, decA_cons, decA_cons]; exact decA_app r m _
theorem decV_snoc (l : List UInt8) (c : UInt8) : decV (l ++ [c]) = decV l * 10 + (c.toNat - 48) := by
  unfold decV
  rw [decA_app]
  exact decA_cons _ _ _
theorem parse_digits : ∀ (l : List UInt8) (a : Nat), (∀ c ∈ l, dig c = true) → a ≤ 18446744073709551615 →
    Lib.parseUintM 18446744073709551615 a l = if 18446744073709551615 < decA a l then Lib.NumEnd.range else Lib.NumEnd.ok (decA a l)
  | [], a, _, h => by rw [decA_nil, if_neg (by omega)]; rfl
  | c :: r, a, h, ha => by
    have hc := h c (List.mem_cons_self ..)
    simp only [dig, Bool.and_eq_true, decide_eq_true_eq] at hc
    have hge := decA_ge r (a * 10 + (c.toNat - 48))
    rw [decA_cons, Lib.parseUintM, if_pos hc]
    split
    · rw [if_pos (by omega)]
    · split
      · rw [if_pos (by omega)]
      · exact parse_digits r _ (fun d hd => h d (List.mem_cons_of_mem _ hd)) (by omega)
theorem parse_plain {l : List UInt8} (h : ∀ c ∈ l, dig c = true) (h0 : l ≠ []) :
    Lib.parseIntB 64 l = if 9223372036854775808 ≤ decV l then Lib.NumEnd.range else Lib.NumEnd.ok (decV l : Int) := by
  match l, h, h0 with
  | c :: r, h, _ =>
    have hc := h c (List.mem_cons_self ..)
    simp only [dig, Bool.and_eq_true, decide_eq_true_eq] at hc
    have h43 : ¬ (c.toNat = 43 ∨ c.toNat = 45) := by omega
    have h45 : ¬ c.toNat = 45 := by omega
    have := parse_digits (c :: r) 0 h (by omega)
    simp only [Lib.parseIntB, if_neg h43, Lib.parseUintB, reduceCtorEq, if_false]
    rw [show (2 ^ 64 - 1 : Nat) = 18446744073709551615 from rfl, this]
    unfold decV
    have h63 : (2 : Nat) ^ (64 - 1) = 9223372036854775808 := rfl
    by_cases h1 : 18446744073709551615 < decA 0 (c :: r)
    · rw [if_pos h1, if_pos (by omega)]
    · rw [if_neg h1]
      simp only [h45, not_false_eq_true, true_and, false_and, if_false, h63]
theorem parse_minus {l : List UInt8} (h : ∀ c ∈ l, dig c = true) :
    Lib.parseIntB 64 ((45 : UInt8) :: l) = if l = [] then Lib.NumEnd.syntax else if 9223372036854775808 < decV l then Lib.NumEnd.range else Lib.NumEnd.ok (-(decV l : Int)) := by
  have h45 : (45 : UInt8).toNat = 45 := rfl
  simp only [Lib.parseIntB, h45, or_true, if_true, Lib.parseUintB]
  by_cases h0 : l = []
  · rw [if_pos h0, if_pos h0]
  · rw [if_neg h0, if_neg h0, show (2 ^ 64 - 1 : Nat) = 18446744073709551615 from rfl, parse_digits l 0 h (by omega)]
    unfold decV
    have h63 : (2 : Nat) ^ (64 - 1) = 9223372036854775808 := rfl
    by_cases h1 : 18446744073709551615 < decA 0 l
    · rw [if_pos h1, if_pos (by omega)]
    · rw [if_neg h1]
      simp only [not_true_eq_false, false_and, true_and, if_false, h63]

/-! ### The token that a list begins with -/
/-- A token's kind, number, text, and how many bytes it takes. -/
structure Lx where
  kind : Int
  num : Int
  str : List UInt8
  size : Nat
def wordB (l : List UInt8) : Bool := l == [97, 110, 100] || l == [111, 114] || l == [110, 111, 116] || l == [105, 110] || l == [116, 114, 117, 101]
def signB (l : List UInt8) : Bool := l == [40] || l == [41] || l == [44] || l == [60] || l == [60, 61] || l == [61] || l == [33, 61] || l == [62, 61] || l == [62] || l == [94, 61]
def nameL (l : List UInt8) : Option Lx :=
  if run nmB l ≤ 20 then some ⟨if wordB (l.take (run nmB l)) then 2 else 1, 0, l.take (run nmB l), run nmB l⟩ else none
def digs (l : List UInt8) : List UInt8 := l.take (run dig l)
def numL : List UInt8 → Option Lx
  | [] => none
  | c :: r =>
    if c.toNat == 45 then
      if digs r = [] ∨ (digs r).head? = some 48 ∨ 9223372036854775808 < decV (digs r) then none else some ⟨3, -(decV (digs r) : Int), [], (digs r).length + 1⟩
    else
      if digs (c :: r) = [] ∨ (1 < (digs (c :: r)).length ∧ (digs (c :: r)).head? = some 48) ∨ 9223372036854775808 ≤ decV (digs (c :: r)) then none else some ⟨3, decV (digs (c :: r)), [], (digs (c :: r)).length⟩
/-- Of what stands behind the first ". -/
def textL (r : List UInt8) : Option Lx :=
  if run inB r ≤ 200 ∧ r[run inB r]? = some 34 then some ⟨4, 0, r.take (run inB r), run inB r + 2⟩ else none
def signL (l : List UInt8) : Option Lx :=
  if 2 ≤ l.length ∧ signB (l.take 2) = true then some ⟨5, 0, l.take 2, 2⟩
  else if signB (l.take 1) = true then some ⟨5, 0, l.take 1, 1⟩ else none
def lex : List UInt8 → Option Lx
  | [] => none
  | c :: r => if low c then nameL (c :: r) else if dig c || c.toNat == 45 then numL (c :: r) else if c.toNat == 34 then textL r else signL (c :: r)

theorem lex_cons (c : UInt8) (r : List UInt8) : lex (c :: r) = if low c then nameL (c :: r) else if dig c || c.toNat == 45 then numL (c :: r) else if c.toNat == 34 then textL r else signL (c :: r) := rfl
theorem numL_cons (c : UInt8) (r : List UInt8) : numL (c :: r) = if c.toNat == 45 then
      (if digs r = [] ∨ (digs r).head? = some 48 ∨ 9223372036854775808 < decV (digs r) then none else some ⟨3, -(decV (digs r) : Int), [], (digs r).length + 1⟩)
    else
      (if digs (c :: r) = [] ∨ (1 < (digs (c :: r)).length ∧ (digs (c :: r)).head? = some 48) ∨ 9223372036854775808 ≤ decV (digs (c :: r)) then none else some ⟨3, decV (digs (c :: r)), [], (digs (c :: r)).length⟩) := rfl
theorem digs_len (l : List UInt8) : (digs l).length = run dig l := by have := run_le dig l; simp [digs]; omega
theorem digs_take (l : List UInt8) (q : Nat) (h : run dig l ≤ q) : digs (l.take q) = digs l := by
  unfold digs
  rw [run_take, List.take_take]
  congr 1
  omega
theorem lex_size {l : List UInt8} {x : Lx} (h : lex l = some x) : 1 ≤ x.size ∧ x.size ≤ l.length := by
  match l, h with
  | c :: r, h =>
    rw [lex_cons] at h
    by_cases h1 : low c = true
    · rw [if_pos h1] at h
      unfold nameL at h
      split at h
      · have e := (Option.some.inj h).symm
        subst e
        have h2 := run_le nmB (c :: r)
        refine ⟨?_, h2⟩
        show 1 ≤ run nmB (c :: r)
        simp [run, nmB, h1]
      · cases h
    · rw [if_neg h1] at h
      split at h
      · rw [numL_cons] at h
        split at h
        · split at h
          · cases h
          · have e := (Option.some.inj h).symm
            subst e
            have h2 := run_le dig r
            simp only [digs_len, List.length_cons]
            omega
        · split at h
          · cases h
          · rename_i hn
            have e := (Option.some.inj h).symm
            subst e
            have h2 := run_le dig (c :: r)
            have h3 : digs (c :: r) ≠ [] := fun e => hn (Or.inl e)
            have h4 := List.length_pos_iff.2 h3
            exact ⟨h4, by rw [digs_len]; exact h2⟩
      · split at h
        · unfold textL at h
          split at h
          · rename_i hn
            have e := (Option.some.inj h).symm
            subst e
            have h2 := (List.getElem?_eq_some_iff.1 hn.2).1
            simp only [List.length_cons]
            omega
          · cases h
        · unfold signL at h
          split at h
          · rename_i hn
            have e := (Option.some.inj h).symm
            subst e
            exact ⟨Nat.le_succ 1, hn.1⟩
          · split at h
            · have e := (Option.some.inj h).symm
              subst e
              exact ⟨Nat.le_refl _, by simp⟩
            · cases h
theorem lex_str {l : List UInt8} {x : Lx} (h : lex l = some x) : x.str.length ≤ l.length := by
  match l, h with
  | c :: r, h =>
    rw [lex_cons] at h
    split at h
    · unfold nameL at h
      split at h
      · have e := (Option.some.inj h).symm
        subst e
        simp only [List.length_take]
        omega
      · cases h
    · split at h
      · rw [numL_cons] at h
        split at h
        · split at h
          · cases h
          · have e := (Option.some.inj h).symm
            subst e
            simp
        · split at h
          · cases h
          · have e := (Option.some.inj h).symm
            subst e
            simp
      · split at h
        · unfold textL at h
          split at h
          · have e := (Option.some.inj h).symm
            subst e
            simp only [List.length_take, List.length_cons]
            omega
          · cases h
        · unfold signL at h
          split at h
          · have e := (Option.some.inj h).symm
            subst e
            simp only [List.length_take]
            omega
          · split at h
            · have e := (Option.some.inj h).symm
              subst e
              simp only [List.length_take]
              omega
            · cases h
/-- What stands behind a token makes no difference to it. -/
theorem lex_take {l : List UInt8} {x : Lx} (h : lex l = some x) {q : Nat} (hq : x.size ≤ q) : lex (l.take q) = some x := by
  have hz := lex_size h
  match l, h with
  | c :: r, h =>
    obtain ⟨p, rfl⟩ : ∃ p, q = p + 1 := ⟨q - 1, by omega⟩
    rw [← h]
    rw [List.take_succ_cons]
    rw [lex_cons] at h ⊢
    rw [lex_cons]
    by_cases h1 : low c = true
    · rw [if_pos h1] at h ⊢
      rw [if_pos h1]
      rw [← List.take_succ_cons]
      have hk : run nmB (c :: r) ≤ p + 1 := by
        unfold nameL at h
        split at h
        · have e := (Option.some.inj h).symm
          subst e
          exact hq
        · cases h
      unfold nameL
      rw [run_take, Nat.min_eq_right hk, List.take_take, Nat.min_eq_left hk]
    · rw [if_neg h1] at h ⊢
      rw [if_neg h1]
      by_cases h2 : (dig c || c.toNat == 45) = true
      · rw [if_pos h2] at h ⊢
        rw [if_pos h2]
        rw [numL_cons] at h ⊢
        rw [numL_cons]
        by_cases h3 : (c.toNat == 45) = true
        · rw [if_pos h3] at h ⊢
          rw [if_pos h3]
          split at h
          · cases h
          · have e := (Option.some.inj h).symm
            subst e
            simp only [digs_len] at hq
            rw [digs_take r p (by omega)]
        · rw [if_neg h3] at h ⊢
          rw [if_neg h3]
          split at h
          · cases h
          · have e := (Option.some.inj h).symm
            subst e
            simp only [digs_len] at hq
            rw [← List.take_succ_cons, digs_take (c :: r) (p + 1) hq]
      · rw [if_neg h2] at h ⊢
        rw [if_neg h2]
        by_cases h3 : (c.toNat == 34) = true
        · rw [if_pos h3] at h ⊢
          rw [if_pos h3]
          unfold textL at h ⊢
          split at h
          · rename_i hn
            have e := (Option.some.inj h).symm
            subst e
            simp only at hq
            have hk : run inB r ≤ p := by omega
            rw [run_take, Nat.min_eq_right hk, List.take_take, Nat.min_eq_left hk, List.getElem?_take_of_lt (by omega)]
          · cases h
        · rw [if_neg h3] at h ⊢
          rw [if_neg h3]
          rw [← List.take_succ_cons]
          unfold signL at h ⊢
          rw [List.take_take, List.take_take, List.length_take, Nat.min_eq_left (show 1 ≤ p + 1 by omega)]
          by_cases h4 : 2 ≤ (c :: r).length ∧ signB ((c :: r).take 2) = true
          · rw [if_pos h4] at h
            have e := (Option.some.inj h).symm
            subst e
            simp only at hq
            rw [Nat.min_eq_left hq, if_pos ⟨by omega, h4.2⟩, if_pos h4]
          · rw [if_neg h4]
            by_cases hp : 2 ≤ p + 1
            · rw [Nat.min_eq_left hp, if_neg (fun hh => h4 ⟨by omega, hh.2⟩)]
            · rw [if_neg (fun hh => by omega)]

/-! ### All tokens of a list -/
structure Tok where
  kind : Int
  pos : Nat
  num : Int
  str : List UInt8
def cutF : Nat → Nat → List UInt8 → Option (List Tok)
  | 0, _, _ => some []
  | _ + 1, _, [] => some []
  | f + 1, a, c :: r =>
    if c.toNat == 32 then cutF f (a + 1) r
    else match lex (c :: r) with
      | none => none
      | some x => (cutF f (a + x.size) ((c :: r).drop x.size)).map (⟨x.kind, a, x.num, x.str⟩ :: ·)
/-- The tokens of l, which begins at a. -/
def cutAt (a : Nat) (l : List UInt8) : Option (List Tok) := cutF l.length a l
theorem cutF_fuel : ∀ (f g a : Nat) (l : List UInt8), l.length ≤ f → l.length ≤ g → cutF f a l = cutF g a l
  | f, g, a, [], _, _ => by cases f <;> cases g <;> rfl
  | 0, g, a, c :: r, h, _ => by simp at h
  | f + 1, 0, a, c :: r, _, h => by simp at h
  | f + 1, g + 1, a, c :: r, hf, hg => by
    simp only [List.length_cons] at hf hg
    simp only [cutF]
    split
    · exact cutF_fuel f g (a + 1) r (by omega) (by omega)
    · cases hx : lex (c :: r) with
      | none => rfl
      | some x =>
        have hz := lex_size hx
        simp only
        rw [cutF_fuel f g (a + x.size) ((c :: r).drop x.size) (by simp; omega) (by simp; omega)]
theorem cutAt_nil (a : Nat) : cutAt a [] = some [] := rfl
theorem cutAt_space {c : UInt8} (h : c.toNat = 32) (a : Nat) (r : List UInt8) : cutAt a (c :: r) = cutAt (a + 1) r := by
  simp [cutAt, cutF, h]
theorem cutAt_none {c : UInt8} (h : ¬ c.toNat = 32) (a : Nat) (r : List UInt8) (hx : lex (c :: r) = none) : cutAt a (c :: r) = none := by
  simp [cutAt, cutF, h, hx]
theorem cutAt_some {c : UInt8} (h : ¬ c.toNat = 32) (a : Nat) (r : List UInt8) {x : Lx} (hx : lex (c :: r) = some x) :
    cutAt a (c :: r) = (cutAt (a + x.size) ((c :: r).drop x.size)).map (⟨x.kind, a, x.num, x.str⟩ :: ·) := by
  have hz := lex_size hx
  have e : (c.toNat == 32) = false := by simpa using h
  unfold cutAt
  simp only [List.length_cons, cutF, e, Bool.false_eq_true, if_false, hx]
  rw [cutF_fuel r.length ((c :: r).drop x.size).length (a + x.size) ((c :: r).drop x.size) (by simp; omega) (Nat.le_refl _)]
theorem cutAt_spaces : ∀ (a : Nat) (l : List UInt8), (∀ (j : Nat) (c : UInt8), l[j]? = some c → c.toNat = 32) → cutAt a l = some []
  | _, [], _ => rfl
  | a, c :: r, h => by
    rw [cutAt_space (h 0 c (by simp))]
    exact cutAt_spaces (a + 1) r fun j d hd => h (j + 1) d (by simpa using hd)
/-- The place of the first one of the tokens; of none: z. -/
def headPos (z : Nat) : List Tok → Nat
  | [] => z
  | t :: _ => t.pos
theorem cut_head : ∀ (n a : Nat) (l : List UInt8) (ts : List Tok), l.length ≤ n → cutAt a l = some ts →
    a ≤ headPos (a + l.length) ts ∧ headPos (a + l.length) ts ≤ a + l.length ∧ ∀ (j : Nat) (c : UInt8), j < headPos (a + l.length) ts - a → l[j]? = some c → c.toNat = 32
  | n, a, [], ts, _, h => by
    rw [cutAt_nil] at h
    cases h
    simp [headPos]
  | 0, a, c :: r, ts, hn, _ => by simp at hn
  | n + 1, a, c :: r, ts, hn, h => by
    simp only [List.length_cons] at hn
    by_cases hc : c.toNat = 32
    · rw [cutAt_space hc] at h
      obtain ⟨h1, h2, h3⟩ := cut_head n (a + 1) r ts (by omega) h
      have e : a + (c :: r).length = a + 1 + r.length := by simp only [List.length_cons]; omega
      rw [e]
      refine ⟨by omega, h2, fun j d hj hd => ?_⟩
      match j with
      | 0 => simp at hd; subst hd; exact hc
      | j + 1 => exact h3 j d (by omega) (by simpa using hd)
    · cases hx : lex (c :: r) with
      | none => rw [cutAt_none hc a r hx] at h; cases h
      | some x =>
        rw [cutAt_some hc a r hx] at h
        obtain ⟨us, _, rfl⟩ := Option.map_eq_some_iff.1 h
        simp [headPos]
/-- Tokens rise by their places; cut out, each is itself. -/
theorem cut_own : ∀ (n a : Nat) (l : List UInt8) (ts : List Tok), l.length ≤ n → cutAt a l = some ts → ∀ (i : Nat) (t : Tok), ts[i]? = some t →
    a ≤ t.pos ∧ t.pos < headPos (a + l.length) (ts.drop (i + 1)) ∧ headPos (a + l.length) (ts.drop (i + 1)) ≤ a + l.length ∧
      cutAt 0 ((l.drop (t.pos - a)).take (headPos (a + l.length) (ts.drop (i + 1)) - t.pos)) = some [⟨t.kind, 0, t.num, t.str⟩]
  | n, a, [], ts, _, h, i, t, ht => by
    rw [cutAt_nil] at h
    cases h
    simp at ht
  | 0, a, c :: r, ts, hn, _, _, _, _ => by simp at hn
  | n + 1, a, c :: r, ts, hn, h, i, t, ht => by
    simp only [List.length_cons] at hn
    by_cases hc : c.toNat = 32
    · rw [cutAt_space hc] at h
      obtain ⟨h1, h2, h3, h4⟩ := cut_own n (a + 1) r ts (by omega) h i t ht
      have e : a + (c :: r).length = a + 1 + r.length := by simp only [List.length_cons]; omega
      rw [e]
      refine ⟨by omega, h2, h3, ?_⟩
      rw [show t.pos - a = (t.pos - (a + 1)) + 1 by omega, List.drop_succ_cons]
      exact h4
    · cases hx : lex (c :: r) with
      | none => rw [cutAt_none hc a r hx] at h; cases h
      | some x =>
        have hz := lex_size hx
        rw [cutAt_some hc a r hx] at h
        obtain ⟨us, hu, rfl⟩ := Option.map_eq_some_iff.1 h
        have hl : ((c :: r).drop x.size).length = (c :: r).length - x.size := by simp
        have e : a + (c :: r).length = a + x.size + ((c :: r).drop x.size).length := by omega
        match i, ht with
        | 0, ht =>
          simp at ht
          subst ht
          obtain ⟨g1, g2, g3⟩ := cut_head n (a + x.size) _ us (by rw [hl]; simp only [List.length_cons]; omega) hu
          rw [e]
          simp only [List.drop_succ_cons, List.drop_zero, Nat.sub_self]
          refine ⟨Nat.le_refl _, by omega, g2, ?_⟩
          obtain ⟨q, hq⟩ : ∃ q, q = headPos (a + x.size + ((c :: r).drop x.size).length) us - a := ⟨_, rfl⟩
          rw [← hq]
          have hlx := lex_take hx (show x.size ≤ q by omega)
          obtain ⟨p, hp⟩ : ∃ p, q = p + 1 := ⟨q - 1, by omega⟩
          rw [hp, List.take_succ_cons] at hlx ⊢
          rw [cutAt_some hc 0 _ hlx, cutAt_spaces]
          · simp
          · intro j d hd
            rw [← List.take_succ_cons, List.drop_take, List.getElem?_take] at hd
            split at hd
            · exact g3 j d (by omega) hd
            · cases hd
        | i + 1, ht =>
          obtain ⟨h1, h2, h3, h4⟩ := cut_own n (a + x.size) _ us (by rw [hl]; simp only [List.length_cons]; omega) hu i t (by simpa using ht)
          rw [e]
          simp only [List.drop_succ_cons]
          refine ⟨by omega, h2, h3, ?_⟩
          rw [List.drop_drop] at h4
          rw [show t.pos - a = x.size + (t.pos - (a + x.size)) by omega]
          exact h4
end Go.Proofs.Ytnnoampmcghnaaa.Tk
