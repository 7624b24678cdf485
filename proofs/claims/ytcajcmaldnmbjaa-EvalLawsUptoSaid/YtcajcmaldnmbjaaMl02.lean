/-
  Plain facts on filters: what is read of a row of tokens takes a beginning of it, of at least so many tokens as the filter has nodes. No program here.
-/
import Derived.Test.YtcajcmaldnmbjaaMl01
import Derived.Lib.ItoaNum
import Derived.Below
import Derived.Laws.AppendOwn
import Derived.Deep.Slices
import Derived.Lib.SmallJoins
import Derived.OpenShut
import Derived.WideShapes
import Derived.ChangeArms
import Derived.Test.YtcajcmaldnmbjaaProg
import Derived.WalkKit
import Derived.WalkSpells
import Derived.Lib.Strings
import Derived.Lib.IndexBytes
import Derived.Lib.Hide
import Derived.Handy
import Derived.KernelRfl
import Derived.BigQuiet
/-
  Plain facts on filters' texts: a filter's text is cut into the filter's own tokens. No program here.
-/
namespace Go.Proofs.Ytcajcmaldnmbjaa.Fl
open Go.Proofs.Ytcajcmaldnmbjaa.Tk
set_option linter.unusedVariables false
set_option linter.unusedSimpArgs false

def core (t : Tok) : Tc := ⟨t.kind, t.num, t.str⟩
/-- What may follow a token, so that it is not longer. -/
def Stp (r : List UInt8) : Prop := ∀ c t, r = c :: t → nmB c = false ∧ c ≠ 61
theorem stp_nil : Stp [] := fun c t h => by cases h
theorem stp_cons {c : UInt8} (h : nmB c = false ∧ c ≠ 61) (r : List UInt8) : Stp (c :: r) := fun d t e => by cases e; exact h
theorem stp32 : nmB 32 = false ∧ (32 : UInt8) ≠ 61 := by decide
theorem stp41 : nmB 41 = false ∧ (41 : UInt8) ≠ 61 := by decide
theorem stp44 : nmB 44 = false ∧ (44 : UInt8) ≠ 61 := by decide
/-- l is cut into T, whatever follows that may. -/
def Cuts (l : List UInt8) (T : List Tc) : Prop := ∀ a rest, Stp rest → ∃ ks : List Tok, ks.map core = T ∧ cutAt a (l ++ rest) = (cutAt (a + l.length) rest).map (ks ++ ·)
/-- l is cut into T, whatever follows. -/
def Free (l : List UInt8) (T : List Tc) : Prop := ∀ a rest, ∃ ks : List Tok, ks.map core = T ∧ cutAt a (l ++ rest) = (cutAt (a + l.length) rest).map (ks ++ ·)
theorem map_two {α : Type} (o : Option (List α)) (k1 k2 : List α) : (o.map (k2 ++ ·)).map (k1 ++ ·) = o.map ((k1 ++ k2) ++ ·) := by cases o <;> simp
theorem Free.cuts {l : List UInt8} {T : List Tc} (h : Free l T) : Cuts l T := fun a rest _ => h a rest
theorem Free.then {l m : List UInt8} {T U : List Tc} (h : Free l T) (g : Cuts m U) : Cuts (l ++ m) (T ++ U) := fun a rest hr => by
  obtain ⟨k1, e1, c1⟩ := h a (m ++ rest)
  obtain ⟨k2, e2, c2⟩ := g (a + l.length) rest hr
  refine ⟨k1 ++ k2, by rw [List.map_append, e1, e2], ?_⟩
  rw [List.append_assoc, c1, c2, map_two, List.length_append, Nat.add_assoc]
theorem Free.free {l m : List UInt8} {T U : List Tc} (h : Free l T) (g : Free m U) : Free (l ++ m) (T ++ U) := fun a rest => by
  obtain ⟨k1, e1, c1⟩ := h a (m ++ rest)
  obtain ⟨k2, e2, c2⟩ := g (a + l.length) rest
  refine ⟨k1 ++ k2, by rw [List.map_append, e1, e2], ?_⟩
  rw [List.append_assoc, c1, c2, map_two, List.length_append, Nat.add_assoc]
theorem Cuts.then {l m : List UInt8} {T U : List Tc} (h : Cuts l T) (hm : ∀ r, Stp (m ++ r)) (g : Cuts m U) : Cuts (l ++ m) (T ++ U) := fun a rest hr => by
  obtain ⟨k1, e1, c1⟩ := h a (m ++ rest) (hm rest)
  obtain ⟨k2, e2, c2⟩ := g (a + l.length) rest hr
  refine ⟨k1 ++ k2, by rw [List.map_append, e1, e2], ?_⟩
  rw [List.append_assoc, c1, c2, map_two, List.length_append, Nat.add_assoc]
theorem Cuts.free {l m : List UInt8} {T U : List Tc} (h : Cuts l T) (hm : ∀ r, Stp (m ++ r)) (g : Free m U) : Free (l ++ m) (T ++ U) := fun a rest => by
  obtain ⟨k1, e1, c1⟩ := h a (m ++ rest) (hm rest)
  obtain ⟨k2, e2, c2⟩ := g (a + l.length) rest
  refine ⟨k1 ++ k2, by rw [List.map_append, e1, e2], ?_⟩
  rw [List.append_assoc, c1, c2, map_two, List.length_append, Nat.add_assoc]
theorem free_space : Free [32] [] := fun a rest => ⟨[], rfl, by rw [List.singleton_append, cutAt_space (by decide)]; simp⟩
theorem free_tok {c : UInt8} (hc : ¬ c.toNat = 32) {x : Lx} (h : ∀ rest, lex (c :: rest) = some x) (hz : x.size = 1) : Free [c] [⟨x.kind, x.num, x.str⟩] := fun a rest => by
  refine ⟨[⟨x.kind, a, x.num, x.str⟩], rfl, ?_⟩
  rw [List.singleton_append, cutAt_some hc a rest (h rest), hz]
  rfl
theorem sign_alone {c : UInt8} (hl : low c = false) (hd : dig c = false) (h1 : ¬ c.toNat = 45) (h2 : ¬ c.toNat = 34) (hs : signB [c] = true) (hn : ∀ d, signB [c, d] = false) (rest : List UInt8) : lex (c :: rest) = some ⟨5, 0, [c], 1⟩ := by
  rw [lex_cons, hl, hd, if_neg (by simp), if_neg (by simpa using h1), if_neg (by simpa using h2)]
  unfold signL
  rw [if_neg]
  · rw [List.take_succ_cons, List.take_zero, if_pos hs]
  · rintro ⟨a, b⟩
    match rest, a, b with
    | d :: r, _, b =>
      rw [List.take_succ_cons, List.take_succ_cons, List.take_zero, hn d] at b
      cases b
theorem sign2_no {c d : UInt8} (h : c ≠ 60 ∧ c ≠ 33 ∧ c ≠ 62 ∧ c ≠ 94) : signB [c, d] = false := by
  simp [signB, h]
theorem free_open : Free [40] [sign sOpen] := free_tok (x := ⟨5, 0, [40], 1⟩) (by decide) (sign_alone (by decide) (by decide) (by decide) (by decide) (by decide) fun d => sign2_no (by decide)) rfl
theorem free_shut : Free [41] [sign sShut] := free_tok (x := ⟨5, 0, [41], 1⟩) (by decide) (sign_alone (by decide) (by decide) (by decide) (by decide) (by decide) fun d => sign2_no (by decide)) rfl
theorem free_comma : Free [44] [sign sComma] := free_tok (x := ⟨5, 0, [44], 1⟩) (by decide) (sign_alone (by decide) (by decide) (by decide) (by decide) (by decide) fun d => sign2_no (by decide)) rfl

theorem run_more (p : UInt8 → Bool) : ∀ (l rest : List UInt8), run p l = l.length → (∀ c t, rest = c :: t → p c = false) → run p (l ++ rest) = l.length
  | [], [], _, _ => rfl
  | [], c :: t, _, h => by simp [run, h c t rfl]
  | d :: l, rest, hl, h => by
    simp only [run, List.length_cons] at hl
    split at hl
    · rename_i hd
      have := run_more p l rest (by omega) h
      simp [run, hd, this]
    · omega
/-- A token that a list is all of is the one that it begins with, too, where what follows ends it. -/
theorem lex_more {l : List UInt8} {x : Lx} (h : lex l = some x) (hz : x.size = l.length) {rest : List UInt8} (hr : Stp rest) : lex (l ++ rest) = some x := by
  match l, h, hz with
  | c :: r, h, hz =>
    rw [← h]
    rw [List.cons_append, lex_cons]
    rw [lex_cons] at h ⊢
    by_cases h1 : low c = true
    · rw [if_pos h1] at h ⊢
      rw [if_pos h1]
      rw [← List.cons_append]
      have hk : run nmB (c :: r) = (c :: r).length := by
        unfold nameL at h
        split at h
        · have e := (Option.some.inj h).symm
          subst e
          exact hz
        · cases h
      have hm := run_more nmB (c :: r) rest hk fun d t e => (hr d t e).1
      unfold nameL
      rw [hm, hk, List.take_left, List.take_length]
    · rw [if_neg h1] at h ⊢
      rw [if_neg h1]
      by_cases h2 : (dig c || c.toNat == 45) = true
      · rw [if_pos h2] at h ⊢
        rw [if_pos h2]
        have hd : ∀ d t, rest = d :: t → dig d = false := fun d t e => by
          have := (hr d t e).1
          simp only [nmB, Bool.or_eq_false_iff] at this
          exact this.2
        rw [numL_cons] at h ⊢
        rw [numL_cons]
        by_cases h3 : (c.toNat == 45) = true
        · rw [if_pos h3] at h ⊢
          rw [if_pos h3]
          split at h
          · cases h
          · have e := (Option.some.inj h).symm
            subst e
            simp only [digs_len, List.length_cons] at hz
            have hk : run dig r = r.length := by omega
            have hm := run_more dig r rest hk hd
            have e2 : digs (r ++ rest) = digs r := by unfold digs; rw [hm, hk, List.take_left, List.take_length]
            rw [e2]
        · rw [if_neg h3] at h ⊢
          rw [if_neg h3]
          split at h
          · cases h
          · have e := (Option.some.inj h).symm
            subst e
            simp only [digs_len] at hz
            have hm := run_more dig (c :: r) rest hz hd
            have e2 : digs (c :: (r ++ rest)) = digs (c :: r) := by rw [← List.cons_append]; unfold digs; rw [hm, hz, List.take_left, List.take_length]
            rw [e2]
      · rw [if_neg h2] at h ⊢
        rw [if_neg h2]
        by_cases h3 : (c.toNat == 34) = true
        · rw [if_pos h3] at h ⊢
          rw [if_pos h3]
          unfold textL at h
          split at h
          · rename_i hn
            have e := (Option.some.inj h).symm
            subst e
            have hk := (List.getElem?_eq_some_iff.1 hn.2).1
            have hm : run inB (r ++ rest) = run inB r := by
              refine run_eq inB _ _ (by simp; omega) (fun j d hj hd => ?_) (fun d hd => ?_)
              · rw [List.getElem?_append_left (by omega)] at hd
                exact run_all inB r j d hj hd
              · rw [List.getElem?_append_left hk, hn.2] at hd
                cases hd
                decide
            unfold textL
            rw [hm, List.getElem?_append_left hk, List.take_append_of_le_length (by omega)]
          · cases h
        · rw [if_neg h3] at h ⊢
          rw [if_neg h3]
          unfold signL at h
          split at h
          · rename_i hn
            have e := (Option.some.inj h).symm
            subst e
            match r, hz with
            | [d], _ =>
              unfold signL
              simp
              rfl
          · rename_i hn
            split at h
            · rename_i hs
              have e := (Option.some.inj h).symm
              subst e
              match r, hz with
              | [], _ =>
                unfold signL
                cases rest with
                | nil => rfl
                | cons d t =>
                  have hne := (hr d t rfl).2
                  have h5 : signB [c, d] = false := by simp [signB, hne]
                  simp [h5]
                  rfl
            · cases h
/-- A list that is one token. -/
theorem cuts_tok {l : List UInt8} {x : Lx} (h : lex l = some x) (hz : x.size = l.length) (h32 : ∀ c t, l = c :: t → ¬ c.toNat = 32) : Cuts l [⟨x.kind, x.num, x.str⟩] := fun a rest hr => by
  match l, h, hz, h32 with
  | c :: r, h, hz, h32 =>
    have hm := lex_more h hz hr
    refine ⟨[⟨x.kind, a, x.num, x.str⟩], rfl, ?_⟩
    rw [List.cons_append] at hm ⊢
    rw [cutAt_some (h32 c r rfl) a _ hm, hz, ← List.cons_append, List.drop_left]
    rfl

/-! ### Numerals -/
theorem digit_nat {k : Nat} (h : k < 10) : (UInt8.ofNat (48 + k)).toNat = 48 + k := by
  simp only [UInt8.toNat_ofNat']
  omega
theorem digit_dig {k : Nat} (h : k < 10) : dig (UInt8.ofNat (48 + k)) = true := by
  simp only [dig, digit_nat h, Bool.and_eq_true, decide_eq_true_eq]
  omega
theorem dd_all : ∀ (u : Nat) (c : UInt8), c ∈ Lib.decDigits u → dig c = true := by
  intro u
  induction u using Nat.strongRecOn with
  | _ u ih =>
    intro c hc
    rw [Lib.decDigits] at hc
    split at hc
    · rw [List.mem_singleton] at hc
      subst hc
      exact digit_dig (by omega)
    · rw [List.mem_append, List.mem_singleton] at hc
      rcases hc with hc | hc
      · exact ih (u / 10) (by omega) c hc
      · subst hc
        exact digit_dig (by omega)
theorem dd_val : ∀ u : Nat, decV (Lib.decDigits u) = u := by
  intro u
  induction u using Nat.strongRecOn with
  | _ u ih =>
    rw [Lib.decDigits]
    split
    · have : decV ([] ++ [UInt8.ofNat (48 + u)]) = decV [] * 10 + ((UInt8.ofNat (48 + u)).toNat - 48) := decV_snoc _ _
      rw [List.nil_append] at this
      rw [this, digit_nat (by omega)]
      unfold decV
      rw [decA_nil]
      omega
    · rw [decV_snoc, ih (u / 10) (by omega), digit_nat (by omega)]
      omega
theorem dd_ne (u : Nat) : Lib.decDigits u ≠ [] := by
  rw [Lib.decDigits]
  split <;> simp
theorem dd_head : ∀ u : Nat, (Lib.decDigits u).head? = some 48 → u = 0 := by
  intro u
  induction u using Nat.strongRecOn with
  | _ u ih =>
    intro h
    rw [Lib.decDigits] at h
    split at h
    · simp only [List.head?_cons, Option.some.injEq] at h
      have h2 := digit_nat (k := u) (by omega)
      rw [h] at h2
      have h3 : (48 : UInt8).toNat = 48 := rfl
      omega
    · have hne := dd_ne (u / 10)
      have h4 : (Lib.decDigits (u / 10)).head? = some 48 := by
        cases hd : Lib.decDigits (u / 10) with
        | nil => exact absurd hd hne
        | cons c r => rw [hd] at h; exact h
      have := ih (u / 10) (by omega) h4
      omega
theorem dd_digs (u : Nat) : digs (Lib.decDigits u) = Lib.decDigits u := by
  unfold digs
  rw [run_whole dig _ (dd_all u), List.take_length]
theorem lex_itoa {n : Int} (h0 : -9223372036854775808 ≤ n) (h1 : n ≤ 9223372036854775807) : lex (Lib.itoa n) = some ⟨3, n, [], (Lib.itoa n).length⟩ := by
  unfold Lib.itoa
  split
  · rename_i hn
    obtain ⟨u, hu⟩ : ∃ u, u = n.natAbs := ⟨_, rfl⟩
    rw [← hu]
    have hlow : low 45 = false := by decide
    rw [lex_cons, hlow, if_neg (by simp), if_pos (by decide), numL_cons, if_pos (by decide), dd_digs, dd_val, if_neg, List.length_cons]
    · congr 2
      omega
    · rintro (h | h | h)
      · exact dd_ne u h
      · have := dd_head u h
        omega
      · omega
  · rename_i hn
    obtain ⟨u, hu⟩ : ∃ u, u = n.toNat := ⟨_, rfl⟩
    rw [← hu]
    cases hd : Lib.decDigits u with
    | nil => exact absurd hd (dd_ne u)
    | cons c r =>
      have hc : dig c = true := dd_all u c (by rw [hd]; simp)
      have hb : 48 ≤ c.toNat ∧ c.toNat ≤ 57 := by simpa only [dig, Bool.and_eq_true, decide_eq_true_eq] using hc
      have hlow : low c = false := by simp only [low, Bool.and_eq_false_iff, decide_eq_false_iff_not]; omega
      have e1 := dd_digs u
      have e2 := dd_val u
      have e3 := dd_head u
      rw [hd] at e1 e2 e3
      rw [lex_cons, hlow, if_neg (by simp), hc, Bool.true_or, if_pos rfl, numL_cons, if_neg (by simp; omega), e1, e2, if_neg]
      · congr 2
        omega
      · rintro (h | ⟨h, g⟩ | h)
        · cases h
        · have h9 := e3 g
          subst h9
          rw [Lib.decDigits, dif_pos (by omega)] at hd
          cases hd
          simp at h
        · omega

/-! ### A filter's text -/
def showV (v : Att) : List UInt8 := if v.text then 34 :: (v.str ++ [34]) else Lib.itoa v.num
def showVs : List Att → List UInt8
  | [] => []
  | v :: r => 44 :: 32 :: (showV v ++ showVs r)
def showOne : List Att → List UInt8
  | [] => []
  | v :: _ => showV v
mutual
def showF : Flt → List UInt8
  | .mk k n o vs l =>
    if k = 7 then wTrue
    else if k = 3 then wNot ++ 32 :: showN l
    else if k = 4 then n ++ 32 :: (o ++ 32 :: showOne vs)
    else if k = 5 then n ++ 32 :: (sPre ++ 32 :: showOne vs)
    else if k = 6 then (match vs with
      | [] => []
      | v :: r => n ++ 32 :: (wIn ++ 32 :: (40 :: (showV v ++ (showVs r ++ [41])))))
    else (match l with
      | [] => []
      | p :: r => showP p ++ showR (andOr k) r)
def showN : List Flt → List UInt8
  | [] => []
  | p :: _ => if p.kind = 7 ∨ p.kind = 3 then showF p else 40 :: (showF p ++ [41])
def showP : Flt → List UInt8
  | .mk k n o vs l => if k = 1 ∨ k = 2 then 40 :: (showF (.mk k n o vs l) ++ [41]) else showF (.mk k n o vs l)
def showR (w : List UInt8) : List Flt → List UInt8
  | [] => []
  | p :: r => 32 :: (w ++ 32 :: (showP p ++ showR w r))
end
/-- Its numbers are int64s. -/
def rngV (v : Att) : Prop := -9223372036854775808 ≤ v.num ∧ v.num ≤ 9223372036854775807
mutual
def rng : Flt → Prop
  | .mk _ _ _ vs l => (∀ v ∈ vs, rngV v) ∧ rngL l
def rngL : List Flt → Prop
  | [] => True
  | p :: r => rng p ∧ rngL r
end
theorem rng_mem : ∀ {l : List Flt}, rngL l → ∀ p ∈ l, rng p
  | [], _, p, hp => by simp at hp
  | q :: r, h, p, hp => by
    rcases List.mem_cons.1 hp with rfl | hp
    · exact h.1
    · exact rng_mem h.2 p hp

theorem space_none {c : UInt8} (h : c.toNat = 32) (r : List UInt8) : lex (c :: r) = none := by
  obtain rfl : c = 32 := UInt8.toNat_inj.1 h
  have h1 : low 32 = false := by decide
  have h2 : dig 32 = false := by decide
  rw [lex_cons, h1, h2, if_neg (by simp), if_neg (by decide), if_neg (by decide)]
  unfold signL
  rw [if_neg, List.take_succ_cons, List.take_zero, if_neg (by decide)]
  rintro ⟨a, b⟩
  match r, a, b with
  | d :: r, _, b =>
    rw [List.take_succ_cons, List.take_succ_cons, List.take_zero, sign2_no (by decide)] at b
    cases b
theorem cuts_of {l : List UInt8} {x : Lx} (h : lex l = some x) (hz : x.size = l.length) : Cuts l [⟨x.kind, x.num, x.str⟩] := cuts_tok h hz fun c t e hc => by
  rw [e, space_none hc t] at h
  cases h
theorem name_lex {n : List UInt8} (h : nameB n = true) : lex n = some ⟨1, 0, n, n.length⟩ := by
  unfold nameB at h
  cases hx : lex n with
  | none => rw [hx] at h; cases h
  | some x =>
    rw [hx] at h
    simp only [Bool.and_eq_true, beq_iff_eq] at h
    obtain ⟨hk, hz⟩ := h
    match n, hx, hz with
    | c :: r, hx, hz =>
      rw [lex_cons] at hx
      split at hx
      · unfold nameL at hx
        split at hx
        · have e := (Option.some.inj hx).symm
          subst e
          simp only at hz hk ⊢
          rw [hz] at hk ⊢
          rw [List.take_length] at hk ⊢
          split at hk
          · cases hk
          · rename_i hw
            rw [if_neg hw]
        · cases hx
      · split at hx
        · rw [numL_cons] at hx
          split at hx
          · split at hx
            · cases hx
            · have e := (Option.some.inj hx).symm
              subst e
              cases hk
          · split at hx
            · cases hx
            · have e := (Option.some.inj hx).symm
              subst e
              cases hk
        · split at hx
          · unfold textL at hx
            split at hx
            · have e := (Option.some.inj hx).symm
              subst e
              cases hk
            · cases hx
          · unfold signL at hx
            split at hx
            · have e := (Option.some.inj hx).symm
              subst e
              cases hk
            · split at hx
              · have e := (Option.some.inj hx).symm
                subst e
                cases hk
              · cases hx
theorem op_lex {o : List UInt8} (h : opB o = true) : lex o = some ⟨5, 0, o, o.length⟩ := by
  simp only [opB, Bool.or_eq_true, beq_iff_eq] at h
  rcases h with ((((rfl | rfl) | rfl) | rfl) | rfl) | rfl <;> rfl
theorem text_lex {s : List UInt8} (h : plainB s = true) : lex (34 :: (s ++ [34])) = some ⟨4, 0, s, (34 :: (s ++ [34])).length⟩ := by
  unfold plainB at h
  rw [Bool.and_eq_true, List.all_eq_true, decide_eq_true_eq] at h
  have h1 : low 34 = false := by decide
  have h2 : dig 34 = false := by decide
  rw [lex_cons, h1, h2, if_neg (by simp), if_neg (by decide), if_pos (by decide)]
  have hm : run inB (s ++ [34]) = s.length := run_more inB s [34] (run_whole inB s fun c hc => h.1 c hc) fun c t e => by cases e; decide
  unfold textL
  rw [hm, if_pos ⟨h.2, by simp⟩, List.take_left]
  simp
theorem cuts_val {v : Att} (h : valB v = true) (hr : rngV v) : Cuts (showV v) [valT v] := by
  obtain ⟨n, tx, x, s⟩ := v
  cases tx
  · simp [valB] at h
    have := cuts_of (lex_itoa hr.1 hr.2) rfl
    simpa [showV, valT] using this
  · simp [valB] at h
    have := cuts_of (text_lex h.2.2) rfl
    simpa [showV, valT] using this
theorem sp {l m : List UInt8} {T U : List Tc} (h : Cuts l T) (g : Cuts m U) : Cuts (l ++ 32 :: m) (T ++ U) := h.then (fun r => stp_cons stp32 _) (free_space.then g)
theorem pa {l : List UInt8} {T : List Tc} (h : Cuts l T) : Cuts (40 :: (l ++ [41])) (sign sOpen :: (T ++ [sign sShut])) := free_open.then (h.then (fun r => stp_cons stp41 _) free_shut.cuts)
theorem cuts_word {w : List UInt8} (h : lex w = some ⟨2, 0, w, w.length⟩) : Cuts w [word w] := cuts_of h rfl
theorem cuts_vals : ∀ (vs : List Att) {l : List UInt8} {T : List Tc}, Cuts l T → (∀ v ∈ vs, valB v = true ∧ rngV v) → Cuts (l ++ showVs vs) (T ++ valsT vs)
  | [], l, T, h, _ => by simpa [showVs, valsT] using h
  | v :: r, l, T, h, hv => by
    have h1 := hv v (List.mem_cons_self ..)
    have h2 : Cuts (l ++ ([44] ++ ([32] ++ showV v))) (T ++ ([sign sComma] ++ ([] ++ [valT v]))) := h.then (fun r => stp_cons stp44 _) (free_comma.then (free_space.then (cuts_val h1.1 h1.2)))
    have h3 := cuts_vals r h2 fun u hu => hv u (List.mem_cons_of_mem _ hu)
    simpa [showVs, valsT] using h3
theorem cuts_rest (w : List UInt8) (hw : lex w = some ⟨2, 0, w, w.length⟩) : ∀ (l : List Flt) {m : List UInt8} {T : List Tc}, Cuts m T → (∀ p ∈ l, Cuts (showP p) (partT p)) → Cuts (m ++ showR w l) (T ++ restT w l)
  | [], m, T, h, _ => by simpa [showR, restT] using h
  | p :: r, m, T, h, hp => by
    have h2 := sp h (sp (cuts_word hw) (hp p (List.mem_cons_self ..)))
    have h3 := cuts_rest w hw r h2 fun q hq => hp q (List.mem_cons_of_mem _ hq)
    simpa [showR, restT] using h3
theorem part_cuts {p : Flt} (h : Cuts (showF p) (toks p)) : Cuts (showP p) (partT p) := by
  match p, h with
  | .mk k n o vs l, h =>
    unfold showP partT
    by_cases hk : k = 1 ∨ k = 2
    · rw [if_pos hk, if_pos hk]
      exact pa h
    · rw [if_neg hk, if_neg hk]
      exact h
theorem leaf_cuts {k : Int} {n o : List UInt8} {vs : List Att} (hk : k = 4 ∨ k = 5 ∨ k = 6) (h : leafB k n o vs = true) (hr : ∀ v ∈ vs, rngV v) : Cuts (showF (.mk k n o vs [])) (toks (.mk k n o vs [])) := by
  match vs, h, hr with
  | v :: r, h, hr =>
    have hv := hr v (List.mem_cons_self ..)
    unfold leafB at h
    rcases hk with rfl | rfl | rfl
    · simp at h
      obtain ⟨⟨⟨⟨h1, h2⟩, h3⟩, h4⟩, h5, h6⟩ := h
      subst h5
      have := sp (cuts_of (name_lex h1) rfl) (sp (cuts_of (op_lex h6) rfl) (cuts_val h2 hv))
      simpa [showF, toks, showOne, sign] using this
    · simp at h
      obtain ⟨⟨⟨⟨h1, h2⟩, h3⟩, h4⟩, ⟨h5, h6⟩, h7⟩ := h
      subst h5
      have hp : lex sPre = some ⟨5, 0, sPre, sPre.length⟩ := rfl
      have := sp (cuts_of (name_lex h1) rfl) (sp (cuts_of hp rfl) (cuts_val h2 hv))
      simpa [showF, toks, showOne, sign] using this
    · simp at h
      obtain ⟨⟨⟨⟨h1, h2⟩, h3⟩, h4⟩, h5⟩ := h
      have hi : lex wIn = some ⟨2, 0, wIn, wIn.length⟩ := rfl
      have h6 := cuts_vals r (cuts_val h2 hv) fun u hu => ⟨(h3 u hu).1, hr u (List.mem_cons_of_mem _ hu)⟩
      have := sp (cuts_of (name_lex h1) rfl) (sp (cuts_word hi) (pa h6))
      simpa [showF, toks, word, List.append_assoc] using this
theorem cuts_show : ∀ (N : Nat) (f : Flt), sz f ≤ N → fine f = true → rng f → Cuts (showF f) (toks f)
  | 0, f, h, _, _ => by have := sz_pos f; omega
  | N + 1, .mk k nm o vs l, hN, hf, hr => by
    simp only [sz] at hN
    simp only [rng] at hr
    have ih : ∀ p ∈ l, fine p = true → Cuts (showF p) (toks p) := fun p hp hfp => cuts_show N p (by have := sz_mem hp; omega) hfp (rng_mem hr.2 p hp)
    by_cases hleaf : k = 4 ∨ k = 5 ∨ k = 6
    · unfold fine at hf
      rw [if_pos hleaf, Bool.and_eq_true, List.isEmpty_iff] at hf
      obtain ⟨hb, rfl⟩ := hf
      exact leaf_cuts hleaf hb hr.1
    · unfold fine at hf
      rw [if_neg hleaf] at hf
      simp only [Bool.and_eq_true, beq_iff_eq, List.isEmpty_iff] at hf
      obtain ⟨⟨⟨⟨rfl, rfl⟩, rfl⟩, hk⟩, hL⟩ := hf
      by_cases h12 : k = 1 ∨ k = 2
      · rw [if_pos h12, decide_eq_true_eq] at hk
        match l, hk, hL, ih with
        | p :: q :: r, _, hL, ih =>
          have hp : ∀ x ∈ p :: q :: r, Cuts (showP x) (partT x) := fun x hx => part_cuts (ih x hx (fine_mem hL x hx).1)
          have hw : lex (andOr k) = some ⟨2, 0, andOr k, (andOr k).length⟩ := by rcases h12 with rfl | rfl <;> rfl
          have h3 := cuts_rest (andOr k) hw (q :: r) (hp p (List.mem_cons_self ..)) fun x hx => hp x (List.mem_cons_of_mem _ hx)
          have e1 : showF (.mk k [] [] [] (p :: q :: r)) = showP p ++ showR (andOr k) (q :: r) := by rcases h12 with rfl | rfl <;> simp [showF]
          have e2 : toks (.mk k [] [] [] (p :: q :: r)) = partT p ++ restT (andOr k) (q :: r) := by rcases h12 with rfl | rfl <;> simp [toks]
          rw [e1, e2]
          exact h3
      · rw [if_neg h12] at hk
        by_cases h3 : k = 3
        · subst h3
          simp at hk
          match l, hk, hL, ih with
          | [p], _, hL, ih =>
            have h4 := ih p (by simp) (fine_mem hL p (by simp)).1
            have h5 : Cuts (showN [p]) (notT [p]) := by
              unfold showN notT
              by_cases h73 : p.kind = 7 ∨ p.kind = 3
              · rw [if_pos h73, if_pos h73]
                exact h4
              · rw [if_neg h73, if_neg h73]
                exact pa h4
            have hn : lex wNot = some ⟨2, 0, wNot, wNot.length⟩ := rfl
            have := sp (cuts_word hn) h5
            simpa [showF, toks] using this
        · rw [if_neg h3] at hk
          simp at hk
          obtain ⟨rfl, rfl⟩ := hk
          have ht : lex wTrue = some ⟨2, 0, wTrue, wTrue.length⟩ := rfl
          simpa [showF, toks] using cuts_word ht
/-- A filter's text is cut into its own tokens, and these are read as it, to their end. -/
theorem show_back {f : Flt} (h : fine f = true) (hr : rng f) : ∃ ks : List Tok, cutAt 0 (showF f) = some ks ∧ ∀ n, 2 * sz f ≤ n → orP n (ks.map core) = some (f, []) := by
  obtain ⟨ks, e, c⟩ := cuts_show (sz f) f (Nat.le_refl _) h hr 0 [] stp_nil
  refine ⟨ks, ?_, fun n hn => by rw [e]; exact back h hn⟩
  rw [List.append_nil] at c
  rw [c, cutAt_nil]
  simp
end Go.Proofs.Ytcajcmaldnmbjaa.Fl
/-
  Filters in memory: trees of structs in slices, to be read; carried from world to world. No program here.
-/
namespace Go.Proofs.Ytcajcmaldnmbjaa.Fl
open Go.RowKit
set_option linter.unusedVariables false

def bs (l : List UInt8) : Value := .string ⟨l.toArray⟩
def attC (v : Att) : List Value := [bs v.name, .bool v.text, .int .i64 v.num, bs v.str]
def attOk (v : Att) : Prop := v.name.length ≤ maxLen ∧ v.str.length ≤ maxLen ∧ rngV v
/-- A slice that begins at a holds vs; its block is one of S. -/
def AttsAt (W : World) (S : Nat → Prop) (a : Option Addr) (vs : List Att) : Prop :=
  vs.length ≤ maxLen ∧ (∀ v ∈ vs, attOk v) ∧ (0 < vs.length → ∃ g o, a = some ⟨g, o, none⟩ ∧ S g ∧ ∀ (k : Nat) (h : k < vs.length),
    W.cell? ⟨g, o + k * 4, none⟩ = some (bs vs[k].name) ∧ W.cell? ⟨g, o + k * 4 + 1, none⟩ = some (.bool vs[k].text) ∧ W.cell? ⟨g, o + k * 4 + 2, none⟩ = some (.int .i64 vs[k].num) ∧ W.cell? ⟨g, o + k * 4 + 3, none⟩ = some (bs vs[k].str))
/-- A filter's five cells: its values begin at a, its parts at b. -/
def fltC (f : Flt) (a : Option Addr) (c : Nat) (b : Option Addr) (d : Nat) : List Value :=
  [.int .i64 f.kind, bs f.name, bs f.op, .slice a f.vals.length c, .slice b f.parts.length d]
def fltV (f : Flt) (a : Option Addr) (c : Nat) (b : Option Addr) (d : Nat) : Value := .agg (fltC f a c b d).toArray
/-- Five cells in a row. -/
def Five (W : World) (g o : Nat) (f : Flt) (a : Option Addr) (c : Nat) (b : Option Addr) (d : Nat) : Prop :=
  W.cell? ⟨g, o, none⟩ = some (.int .i64 f.kind) ∧ W.cell? ⟨g, o + 1, none⟩ = some (bs f.name) ∧ W.cell? ⟨g, o + 2, none⟩ = some (bs f.op) ∧
  W.cell? ⟨g, o + 3, none⟩ = some (.slice a f.vals.length c) ∧ W.cell? ⟨g, o + 4, none⟩ = some (.slice b f.parts.length d)
mutual
/-- What a filter's two slices hold is it. -/
def FltAt (W : World) (S : Nat → Prop) : Flt → Option Addr → Option Addr → Prop
  | .mk k n o vs ps, a, b => (n.length ≤ maxLen ∧ o.length ≤ maxLen ∧ -9223372036854775808 ≤ k ∧ k ≤ 9223372036854775807 ∧ ps.length ≤ maxLen) ∧ AttsAt W S a vs ∧ PartsAt W S b 0 ps
def PartsAt (W : World) (S : Nat → Prop) (b : Option Addr) : Nat → List Flt → Prop
  | _, [] => True
  | j, p :: r => (∃ g o a c b' d, b = some ⟨g, o, none⟩ ∧ S g ∧ Five W g (o + j * 5) p a c b' d ∧ FltAt W S p a b') ∧ PartsAt W S b (j + 1) r
end
theorem AttsAt.far {W V : World} {S T : Nat → Prop} {a : Option Addr} {vs : List Att} (h : AttsAt W S a vs) (hS : ∀ g, S g → T g ∧ V.heap[g]? = W.heap[g]?) : AttsAt V T a vs := by
  refine ⟨h.1, h.2.1, fun h0 => ?_⟩
  obtain ⟨g, o, e, hg, hc⟩ := h.2.2 h0
  obtain ⟨ht, hh⟩ := hS g hg
  have hq : ∀ x, V.cell? ⟨g, x, none⟩ = W.cell? ⟨g, x, none⟩ := fun x => World.cell?_of_block (w := W) (w' := V) (a := ⟨g, x, none⟩) hh
  exact ⟨g, o, e, ht, fun k hk => by simp only [hq]; exact hc k hk⟩
theorem Five.far {W V : World} {g o : Nat} {f : Flt} {a : Option Addr} {c : Nat} {b : Option Addr} {d : Nat} (h : Five W g o f a c b d) (hh : V.heap[g]? = W.heap[g]?) : Five V g o f a c b d := by
  have hq : ∀ x, V.cell? ⟨g, x, none⟩ = W.cell? ⟨g, x, none⟩ := fun x => World.cell?_of_block (w := W) (w' := V) (a := ⟨g, x, none⟩) hh
  unfold Five
  simp only [hq]
  exact h
mutual
theorem FltAt.far {W V : World} {S T : Nat → Prop} (hS : ∀ g, S g → T g ∧ V.heap[g]? = W.heap[g]?) : ∀ {f : Flt} {a b : Option Addr}, FltAt W S f a b → FltAt V T f a b
  | .mk k n o vs ps, a, b, h => by
    rw [FltAt] at h ⊢
    exact ⟨h.1, h.2.1.far hS, PartsAt.far hS ps h.2.2⟩
theorem PartsAt.far {W V : World} {S T : Nat → Prop} (hS : ∀ g, S g → T g ∧ V.heap[g]? = W.heap[g]?) {b : Option Addr} : ∀ {j : Nat} (ps : List Flt), PartsAt W S b j ps → PartsAt V T b j ps
  | _, [], _ => by rw [PartsAt]; trivial
  | j, p :: r, h => by
    rw [PartsAt] at h ⊢
    obtain ⟨⟨g, o, a, c, b', d, e, hg, h5, hf⟩, hr⟩ := h
    exact ⟨⟨g, o, a, c, b', d, e, (hS g hg).1, h5.far (hS g hg).2, FltAt.far hS hf⟩, PartsAt.far hS r hr⟩
end
theorem PartsAt.get {W : World} {S : Nat → Prop} {b : Option Addr} : ∀ {j : Nat} {ps : List Flt}, PartsAt W S b j ps → ∀ (k : Nat) (h : k < ps.length),
    ∃ g o a c b' d, b = some ⟨g, o, none⟩ ∧ S g ∧ Five W g (o + (j + k) * 5) ps[k] a c b' d ∧ FltAt W S ps[k] a b'
  | _, [], _, k, h => by simp at h
  | j, p :: r, h, 0, _ => by rw [PartsAt] at h; exact h.1
  | j, p :: r, h, k + 1, hk => by
    rw [PartsAt] at h
    have := PartsAt.get h.2 k (by simpa using hk)
    rw [show j + 1 + k = j + (k + 1) by omega] at this
    exact this
theorem PartsAt.mk' {W : World} {S : Nat → Prop} {b : Option Addr} : ∀ {j : Nat} {ps : List Flt}, (∀ (k : Nat) (h : k < ps.length), ∃ g o a c b' d, b = some ⟨g, o, none⟩ ∧ S g ∧ Five W g (o + (j + k) * 5) ps[k] a c b' d ∧ FltAt W S ps[k] a b') → PartsAt W S b j ps
  | _, [], _ => by rw [PartsAt]; trivial
  | j, p :: r, h => by
    rw [PartsAt]
    refine ⟨h 0 (by simp), PartsAt.mk' fun k hk => ?_⟩
    have := h (k + 1) (by simpa using hk)
    rw [show j + (k + 1) = j + 1 + k by omega] at this
    exact this
theorem FltAt.parts {W : World} {S : Nat → Prop} {f : Flt} {a b : Option Addr} (h : FltAt W S f a b) : PartsAt W S b 0 f.parts := by
  cases f
  rw [FltAt] at h
  exact h.2.2
theorem FltAt.atts {W : World} {S : Nat → Prop} {f : Flt} {a b : Option Addr} (h : FltAt W S f a b) : AttsAt W S a f.vals := by
  cases f
  rw [FltAt] at h
  exact h.2.1
theorem FltAt.small {W : World} {S : Nat → Prop} {f : Flt} {a b : Option Addr} (h : FltAt W S f a b) : f.name.length ≤ maxLen ∧ f.op.length ≤ maxLen ∧ -9223372036854775808 ≤ f.kind ∧ f.kind ≤ 9223372036854775807 ∧ f.parts.length ≤ maxLen := by
  cases f
  rw [FltAt] at h
  exact h.1
theorem FltAt.mk' {W : World} {S : Nat → Prop} {f : Flt} {a b : Option Addr} (h : f.name.length ≤ maxLen ∧ f.op.length ≤ maxLen ∧ -9223372036854775808 ≤ f.kind ∧ f.kind ≤ 9223372036854775807 ∧ f.parts.length ≤ maxLen) (ha : AttsAt W S a f.vals) (hp : PartsAt W S b 0 f.parts) : FltAt W S f a b := by
  cases f
  rw [FltAt]
  exact ⟨h, ha, hp⟩
mutual
theorem FltAt.rng {W : World} {S : Nat → Prop} : ∀ {f : Flt} {a b : Option Addr}, FltAt W S f a b → rng f
  | .mk k n o vs ps, a, b, h => by
    rw [FltAt] at h
    rw [Fl.rng]
    exact ⟨fun v hv => (h.2.1.2.1 v hv).2.2, PartsAt.rng ps h.2.2⟩
theorem PartsAt.rng {W : World} {S : Nat → Prop} {b : Option Addr} : ∀ {j : Nat} (ps : List Flt), PartsAt W S b j ps → rngL ps
  | _, [], _ => by rw [Fl.rngL]; trivial
  | j, p :: r, h => by
    rw [PartsAt] at h
    obtain ⟨⟨g, o, a, c, b', d, e, hg, h5, hf⟩, hr⟩ := h
    rw [Fl.rngL]
    exact ⟨FltAt.rng hf, PartsAt.rng r hr⟩
end
/-- In old memory alone. -/
def Old (z : Nat) (g : Nat) : Prop := g < z
theorem FltAt.later {W V : World} {z : Nat} {f : Flt} {a b : Option Addr} (h : FltAt W (Old z) f a b) (hB : Below z W V) : FltAt V (Old z) f a b := h.far fun g hg => ⟨hg, hB.block g hg⟩
theorem FltAt.wide {W : World} {z z' : Nat} {f : Flt} {a b : Option Addr} (h : FltAt W (Old z) f a b) (hz : z ≤ z') : FltAt W (Old z') f a b := h.far fun g hg => ⟨Nat.lt_of_lt_of_le hg hz, rfl⟩
theorem AttsAt.later {W V : World} {z : Nat} {a : Option Addr} {vs : List Att} (h : AttsAt W (Old z) a vs) (hB : Below z W V) : AttsAt V (Old z) a vs := h.far fun g hg => ⟨hg, hB.block g hg⟩
theorem PartsAt.later {W V : World} {z j : Nat} {b : Option Addr} {ps : List Flt} (h : PartsAt W (Old z) b j ps) (hB : Below z W V) : PartsAt V (Old z) b j ps := PartsAt.far (fun g hg => ⟨hg, hB.block g hg⟩) ps h
end Go.Proofs.Ytcajcmaldnmbjaa.Fl
/-
  An argument that is a filter, opened: the tree that it is, to any depth. No function of the program here.
-/
namespace Go.Proofs.Ytcajcmaldnmbjaa.Fl
open Go.RowKit Go.ChangeShapes Go.WideShapes Go.Deep Go.Joins
set_option linter.unusedVariables false
set_option linter.unusedSectionVars false

theorem bs_list (s : ByteArray) : bs s.data.toList = .string s := by
  obtain ⟨d⟩ := s
  simp [bs]
instance : Inhabited Att := ⟨⟨[], false, 0, []⟩⟩
instance : Inhabited Flt := ⟨.mk 0 [] [] [] []⟩
section
variable {H : Type} {enc : TypeId × Value → H} {P : Program} {w : World} {base : Nat} {spare : Nat → Bool} {held : Bool}
/-- What the program's types are. -/
structure Types (P : Program) (tF tA tL tVs : TypeId) (f0 f1 f2 f3 f4 a0 a1 a2 a3 : Field) : Prop where
  filter : P.underlying tF = some (.struct #[f0, f1, f2, f3, f4])
  fcells : P.cellsOf tF = 5
  fone : oneCellFields P #[f0, f1, f2, f3, f4] = true
  u0 : P.underlying f0.type = some (.int .i64)
  u1 : P.underlying f1.type = some .string
  u2 : P.underlying f2.type = some .string
  t3 : f3.type = tVs
  t4 : f4.type = tL
  vals : P.underlying tVs = some (.slice tA)
  parts : P.underlying tL = some (.slice tF)
  attr : P.underlying tA = some (.struct #[a0, a1, a2, a3])
  acells : P.cellsOf tA = 4
  aone : oneCellFields P #[a0, a1, a2, a3] = true
  w0 : P.underlying a0.type = some .string
  w1 : P.underlying a1.type = some .bool
  w2 : P.underlying a2.type = some (.int .i64)
  w3 : P.underlying a3.type = some .string
variable {tF tA tL tVs : TypeId} {f0 f1 f2 f3 f4 a0 a1 a2 a3 : Field}
theorem list4 {cs : List Value} (h : cs.length = 4) : ∃ a b c d, cs = [a, b, c, d] := by
  match cs, h with
  | [a, b, c, d], _ => exact ⟨a, b, c, d, rfl⟩
theorem list5 {cs : List Value} (h : cs.length = 5) : ∃ a b c d e, cs = [a, b, c, d, e] := by
  match cs, h with
  | [a, b, c, d, e], _ => exact ⟨a, b, c, d, e, rfl⟩
theorem size_list (s : ByteArray) : s.data.toList.length = s.size := Array.length_toList
theorem open_att (T : Types P tF tA tL tVs f0 f1 f2 f3 f4 a0 a1 a2 a3) {fuel : Nat} {cs : List Value} {x : DataW H × List MemPlace} (h : DataW.trod enc P w base spare held fuel tA cs = some x) : ∃ v : Att, cs = attC v ∧ attOk v := by
  obtain ⟨y0, y1, y2, y3, n, _, hl, h0, h1, h2, h3⟩ := trod_struct4 T.attr h
  obtain ⟨o0, k0⟩ := hone_of T.aone 0 a0 rfl
  obtain ⟨o1, k1⟩ := hone_of T.aone 1 a1 rfl
  obtain ⟨o2, k2⟩ := hone_of T.aone 2 a2 rfl
  obtain ⟨o3, k3⟩ := hone_of T.aone 3 a3 rfl
  obtain ⟨c0, c1, c2, c3, rfl⟩ := list4 (hl.trans T.acells)
  obtain ⟨s0, e0, _, z0⟩ := DataW.trod_string T.w0 h0
  obtain ⟨b1, e1, _⟩ := DataW.trod_bool T.w1 h1
  obtain ⟨n2, e2, _, z2⟩ := DataW.trod_int T.w2 h2
  obtain ⟨s3, e3, _, z3⟩ := DataW.trod_string T.w3 h3
  simp [o0, k0] at e0
  simp [o1, k1] at e1
  simp [o2, k2] at e2
  simp [o3, k3] at e3
  subst e0 e1 e2 e3
  refine ⟨⟨s0.data.toList, b1, n2, s3.data.toList⟩, ?_, by rw [size_list]; exact z0, by rw [size_list]; exact z3, bounds_i64 z2⟩
  simp only [attC, bs_list]
theorem open_elems {t e : TypeId} {c : Nat} {α : Type} [Inhabited α] {Q : Nat → α → List Value → Prop} (ht : P.underlying t = some (.slice e)) (hc : P.cellsOf e = c) {fuel : Nat} {cs : List Value} {x : DataW H × List MemPlace} (h : DataW.trod enc P w base spare held fuel t cs = some x)
    (hQ : ∀ m, m < fuel → ∀ i cs' x', DataW.trod enc P w base spare held m e cs' = some x' → ∃ v, Q i v cs') (h0 : 0 < c) (hQl : ∀ i v cs', Q i v cs' → cs'.length = c) :
    ∃ (l : List α) (a : Option Addr) (cap : Nat), cs = [.slice a l.length cap] ∧ l.length ≤ maxLen ∧ (0 < l.length → ∃ g o, a = some ⟨g, o, none⟩ ∧ g < w.heap.size ∧ ∀ (k : Nat) (hk : k < l.length), ∃ cs', Q k l[k] cs' ∧ ∀ i, i < c → w.cell? ⟨g, o + k * c + i, none⟩ = cs'[i]?) := by
  rcases DataW.trod_slice ht h with ⟨rfl, _⟩ | ⟨a, len, cap, elems, rest, n, rfl, rfl, _, hb, hl, hm, hel, hx, _, _⟩
  · exact ⟨[], none, 0, rfl, Nat.zero_le _, fun h => by simp at h⟩
  · have each : ∀ i, i < len → ∃ v : α, ∃ cs', w.cells? base (a.add (i * c)) c = some cs' ∧ Q i v cs' := by
      intro i hi
      have h1 := hx i hi
      rw [hc, List.getElem?_eq_getElem (by omega)] at h1
      obtain ⟨cs', h2, h3⟩ := Option.bind_eq_some_iff.1 h1
      obtain ⟨v, hv⟩ := hQ n (by omega) i cs' _ h3
      exact ⟨v, cs', h2, hv⟩
    obtain ⟨V, hV⟩ := choose_lt each
    refine ⟨(List.range len).map V, some a, cap, by simp, by simp; omega, fun hp => ?_⟩
    simp only [List.length_map, List.length_range] at hp
    have hs : a.spot = none ∧ a.block < w.heap.size := by
      obtain ⟨cs', h2, h3⟩ := hV 0 hp
      obtain ⟨_, hl2, hc2⟩ := World.cells?_some h2
      have h4 := hc2 0 (by omega)
      rw [List.getElem?_eq_getElem (by omega)] at h4
      simp only [Nat.zero_mul, Addr.add] at h4
      simp only [if_true] at h4
      exact ⟨World.cell?_spot h4, World.block_lt_of_cell? w a h4⟩
    obtain ⟨g, o, s⟩ := a
    obtain ⟨hs1, hs2⟩ := hs
    simp only at hs1
    subst hs1
    refine ⟨g, o, rfl, hs2, fun k hk => ?_⟩
    simp only [List.length_map, List.length_range] at hk
    obtain ⟨cs', h2, h3⟩ := hV k hk
    refine ⟨cs', by simpa using h3, fun i hi => ?_⟩
    have h4 := (World.cells?_some h2).2.2 i hi
    rw [add_plain, add_plain] at h4
    exact h4
theorem open_atts (T : Types P tF tA tL tVs f0 f1 f2 f3 f4 a0 a1 a2 a3) {fuel : Nat} {cs : List Value} {x : DataW H × List MemPlace} (h : DataW.trod enc P w base spare held fuel tVs cs = some x) :
    ∃ (vs : List Att) (a : Option Addr) (c : Nat), cs = [.slice a vs.length c] ∧ AttsAt w (Old w.heap.size) a vs := by
  obtain ⟨l, a, c, e, hm, hc⟩ := open_elems (α := Att) (Q := fun _ v cs' => cs' = attC v ∧ attOk v) T.vals T.acells h (fun m _ i cs' x' h' => open_att T h') (by omega) (fun i v cs' hq => by rw [hq.1]; rfl)
  refine ⟨l, a, c, e, hm, fun v hv => ?_, fun h0 => ?_⟩
  · obtain ⟨k, hk, rfl⟩ := List.getElem_of_mem hv
    obtain ⟨g, o, _, _, hq⟩ := hc (by omega)
    obtain ⟨cs', ⟨_, h2⟩, _⟩ := hq k hk
    exact h2
  · obtain ⟨g, o, e, hg, hq⟩ := hc h0
    refine ⟨g, o, e, hg, fun k hk => ?_⟩
    obtain ⟨cs', ⟨rfl, h2⟩, h3⟩ := hq k hk
    exact ⟨by simpa [attC] using h3 0 (by omega), by simpa [attC] using h3 1 (by omega), by simpa [attC] using h3 2 (by omega), by simpa [attC] using h3 3 (by omega)⟩
theorem open_flt_cells (T : Types P tF tA tL tVs f0 f1 f2 f3 f4 a0 a1 a2 a3) : ∀ (fuel : Nat) (cs : List Value) (x : DataW H × List MemPlace), DataW.trod enc P w base spare held fuel tF cs = some x →
    ∃ (f : Flt) (a : Option Addr) (c : Nat) (b : Option Addr) (d : Nat), cs = fltC f a c b d ∧ FltAt w (Old w.heap.size) f a b := by
  intro fuel
  induction fuel using Nat.strongRecOn with
  | _ fuel ih =>
    intro cs x h
    obtain ⟨xs, n, rfl, _, hl, hlen, hf⟩ := DataW.trod_struct T.filter h
    obtain ⟨o0, k0⟩ := hone_of T.fone 0 f0 rfl
    obtain ⟨o1, k1⟩ := hone_of T.fone 1 f1 rfl
    obtain ⟨o2, k2⟩ := hone_of T.fone 2 f2 rfl
    obtain ⟨o3, k3⟩ := hone_of T.fone 3 f3 rfl
    obtain ⟨o4, k4⟩ := hone_of T.fone 4 f4 rfl
    obtain ⟨c0, c1, c2, c3, c4, rfl⟩ := list5 (hl.trans T.fcells)
    have g := fun i (f : Field) (hi : #[f0, f1, f2, f3, f4][i]? = some f) => hf i f hi
    have g0 := g 0 f0 rfl
    have g1 := g 1 f1 rfl
    have g2 := g 2 f2 rfl
    have g3 := g 3 f3 rfl
    have g4 := g 4 f4 rfl
    have hxl : xs.length = 5 := hlen
    rw [List.getElem?_eq_getElem (by omega)] at g0 g1 g2 g3 g4
    rw [T.t3] at g3
    rw [T.t4] at g4
    obtain ⟨n0, e0, _, z0⟩ := DataW.trod_int T.u0 g0
    obtain ⟨s1, e1, _, z1⟩ := DataW.trod_string T.u1 g1
    obtain ⟨s2, e2, _, z2⟩ := DataW.trod_string T.u2 g2
    obtain ⟨vs, a, c, e3, hvs⟩ := open_atts T g3
    obtain ⟨ps, b, d, e4, hpl, hps⟩ := open_elems (α := Flt) (Q := fun _ p cs' => ∃ (a : Option Addr) (c : Nat) (b : Option Addr) (d : Nat), cs' = fltC p a c b d ∧ FltAt w (Old w.heap.size) p a b) T.parts T.fcells g4
      (fun m hm i cs' x' h' => ih m (by omega) cs' x' h') (by omega) (fun i v cs' hq => by obtain ⟨_, _, _, _, e, _⟩ := hq; rw [e]; rfl)
    simp [o0, k0] at e0
    simp [o1, k1] at e1
    simp [o2, k2] at e2
    rw [← T.t3] at e3
    rw [← T.t4] at e4
    simp [o3, k3] at e3
    simp [o4, k4] at e4
    subst e0 e1 e2 e3 e4
    refine ⟨.mk n0 s1.data.toList s2.data.toList vs ps, a, c, b, d, ?_, FltAt.mk' ⟨by rw [Flt.name, size_list]; exact z1, by rw [Flt.op, size_list]; exact z2, (bounds_i64 z0).1, (bounds_i64 z0).2, hpl⟩ hvs (PartsAt.mk' fun k hk => ?_)⟩
    · simp only [fltC, Flt.kind, Flt.name, Flt.op, Flt.vals, Flt.parts, bs_list]
    · obtain ⟨g, o, e, hg, hq⟩ := hps (Nat.lt_of_le_of_lt (Nat.zero_le _) hk)
      obtain ⟨cs', ⟨a', c', b', d', rfl, h6⟩, h7⟩ := hq k hk
      refine ⟨g, o, a', c', b', d', e, hg, ?_, h6⟩
      rw [Nat.zero_add]
      show Five w g (o + k * 5) ps[k] a' c' b' d'
      exact ⟨by simpa [fltC] using h7 0 (by omega), by simpa [fltC] using h7 1 (by omega), by simpa [fltC] using h7 2 (by omega), by simpa [fltC] using h7 3 (by omega), by simpa [fltC] using h7 4 (by omega)⟩
/-- An argument that is a filter. -/
theorem open_flt (T : Types P tF tA tL tVs f0 f1 f2 f3 f4 a0 a1 a2 a3) {r : Reach} {b0 : Nat} {v : Value} {d : DataW H} {p : List MemPlace} (hv : Value.okWide P w r b0 tF v) (h : DataW.Trod enc P w base spare held tF v d p) :
    ∃ (f : Flt) (a : Option Addr) (c : Nat) (b : Option Addr) (d : Nat), v = .agg #[.int .i64 f.kind, bs f.name, bs f.op, .slice a f.vals.length c, .slice b f.parts.length d] ∧ FltAt w (Old w.heap.size) f a b := by
  obtain ⟨cs, rfl, hsz⟩ := okWide_struct T.filter hv
  obtain ⟨fuel, hf⟩ := h
  obtain ⟨f, a, c, b, d, e, h1⟩ := open_flt_cells T fuel _ _ hf
  refine ⟨f, a, c, b, d, ?_, h1⟩
  have e2 : cs.toList = fltC f a c b d := by simpa [Value.cells] using e
  have e3 : cs = (fltC f a c b d).toArray := by rw [← e2]
  rw [e3]
  rfl
end
end Go.Proofs.Ytcajcmaldnmbjaa.Fl
/-
  Contracts of the smallest functions of package filter and of the document's answer: what kind, what sign, whether a text may be. Memory that was there is left as it was.
-/
namespace Go.Proofs.Ytcajcmaldnmbjaa.Fl
open Go.RowKit
set_option linter.unusedVariables false
set_option linter.unusedSimpArgs false

def joinedB (k : Int) : Bool := decide (k = 1) || decide (k = 2)
/-- May it stand between two quotes? -/
def chB (c : UInt8) : Bool := decide (32 ≤ c.toNat) && decide (c.toNat ≤ 126) && !(c.toNat == 34)
theorem plainB_eq (l : List UInt8) : plainB l = (l.all chB && decide (l.length ≤ 200)) := rfl
theorem ch_cases (c : UInt8) : ((c.toNat : Int) < 32 ∧ chB c = false) ∨ (¬ (c.toNat : Int) < 32 ∧ (126 : Int) < c.toNat ∧ chB c = false) ∨ (¬ (c.toNat : Int) < 32 ∧ ¬ (126 : Int) < c.toNat ∧ (c.toNat : Int) = 34 ∧ chB c = false) ∨
    (¬ (c.toNat : Int) < 32 ∧ ¬ (126 : Int) < c.toNat ∧ ¬ (c.toNat : Int) = 34 ∧ chB c = true) := by
  unfold chB
  by_cases h1 : (c.toNat : Int) < 32
  · exact Or.inl ⟨h1, by rw [decide_eq_false (show ¬ 32 ≤ c.toNat by omega)]; rfl⟩
  by_cases h2 : (126 : Int) < c.toNat
  · exact Or.inr (Or.inl ⟨h1, h2, by rw [decide_eq_false (show ¬ c.toNat ≤ 126 by omega)]; simp⟩)
  by_cases h3 : (c.toNat : Int) = 34
  · exact Or.inr (Or.inr (Or.inl ⟨h1, h2, h3, by rw [show c.toNat = 34 by omega]; rfl⟩))
  · refine Or.inr (Or.inr (Or.inr ⟨h1, h2, h3, ?_⟩))
    rw [decide_eq_true (show 32 ≤ c.toNat by omega), decide_eq_true (show c.toNat ≤ 126 by omega)]
    have : ¬ c.toNat = 34 := by omega
    simpa using this
theorem all_no {p : UInt8 → Bool} {l : List UInt8} {k : Nat} {c : UInt8} (h : l[k]? = some c) (hp : p c = false) : l.all p = false := by
  obtain ⟨hk, rfl⟩ := List.getElem?_eq_some_iff.1 h
  rw [List.all_eq_false]
  exact ⟨_, List.getElem_mem hk, by simp [hp]⟩
theorem all_yes {p : UInt8 → Bool} {l : List UInt8} (h : ∀ (j : Nat) (c : UInt8), j < l.length → l[j]? = some c → p c = true) : l.all p = true := by
  rw [List.all_eq_true]
  intro c hc
  obtain ⟨k, hk, rfl⟩ := List.getElem_of_mem hc
  exact h k _ hk (List.getElem?_eq_getElem hk)
def TxtR (p : UInt8 → Bool) (l : List UInt8) (w : World) (vi : Value) (wr : World) : Prop :=
  ∃ k : Nat, k ≤ l.length ∧ vi = .int .i64 k ∧ Hid (∀ (j : Nat) (c : UInt8), j < k → l[j]? = some c → p c = true) ∧ w = wr
theorem txt_more {p : UInt8 → Bool} {l : List UInt8} {k : Nat} {c : UInt8} (h : ∀ (j : Nat) (c : UInt8), j < k → l[j]? = some c → p c = true) (hc : l[k]? = some c) (hp : p c = true) : ∀ (j : Nat) (c : UInt8), j < k + 1 → l[j]? = some c → p c = true := by
  intro j d hj hd
  by_cases e : j = k
  · subst e
    rw [hc] at hd
    cases hd
    exact hp
  · exact h j d (by omega) hd

end Go.Proofs.Ytcajcmaldnmbjaa.Fl
/-
  Contracts of package filter's functions on values: may an attribute be a value, may all of a list, are they of one sort. Memory that was there is left as it was.
-/
namespace Go.Proofs.Ytcajcmaldnmbjaa.Fl
open Go.RowKit
set_option linter.unusedVariables false
set_option linter.unusedSimpArgs false

/-- Where a value that may not be stands first. -/
def firstNo : List Att → Int
  | [] => -1
  | v :: r => if valB v = true then (if firstNo r = -1 then -1 else firstNo r + 1) else 0
def InR (vs : List Att) (w : World) (vi : Value) (wr : World) : Prop :=
  ∃ k : Nat, k ≤ vs.length ∧ vi = .int .i64 k ∧ Hid (∀ v ∈ vs.take k, valB v = true) ∧ Below w.heap.size w wr
theorem take_more {vs : List Att} {k : Nat} {v : Att} (h : ∀ v ∈ vs.take k, valB v = true) (hk : vs[k]? = some v) (hv : valB v = true) : ∀ v ∈ vs.take (k + 1), valB v = true := by
  rw [List.take_add_one, hk]
  intro u hu
  rcases List.mem_append.1 hu with hu | hu
  · exact h u hu
  · simp at hu
    rw [hu]
    exact hv
theorem bs_bytes (l : List UInt8) : ∃ s : ByteArray, bs l = .string s ∧ s.data.toList = l := ⟨⟨l.toArray⟩, rfl, rfl⟩
/-- All of one sort. -/
def sortB : List Att → Bool
  | [] => true
  | v :: r => r.all fun u => u.text == v.text
theorem sort_eq {v : Att} {r : List Att} : sortB (v :: r) = (v :: r).all fun u => u.text == v.text := by simp [sortB]
def OneR (vs : List Att) (t : Bool) (w : World) (vi : Value) (wr : World) : Prop :=
  ∃ k : Nat, k ≤ vs.length ∧ vi = .int .i64 k ∧ Hid (∀ v ∈ vs.take k, (v.text == t) = true) ∧ Below w.heap.size w wr
theorem take_more' {vs : List Att} {k : Nat} {v : Att} {p : Att → Bool} (h : ∀ v ∈ vs.take k, p v = true) (hk : vs[k]? = some v) (hv : p v = true) : ∀ v ∈ vs.take (k + 1), p v = true := by
  rw [List.take_add_one, hk]
  intro u hu
  rcases List.mem_append.1 hu with hu | hu
  · exact h u hu
  · simp at hu
    rw [hu]
    exact hv
end Go.Proofs.Ytcajcmaldnmbjaa.Fl
namespace Go.Proofs.Ytcajcmaldnmbjaa.Fl
set_option linter.unusedVariables false
set_option linter.unusedSimpArgs false

theorem takes_is {s : List UInt8} {ts r : List Tc} (h : takes s ts = some r) : ∃ t, ts = t :: r ∧ (t.kind = 2 ∨ t.kind = 5) ∧ t.str = s := by
  match ts, h with
  | t :: u, h =>
    simp only [takes] at h
    by_cases hc : (t.kind = 2 ∨ t.kind = 5) ∧ t.str = s
    · rw [if_pos hc] at h
      cases h
      exact ⟨t, rfl, hc⟩
    · rw [if_neg hc] at h
      cases h
theorem val_is {ts r : List Tc} {v : Att} (h : valP ts = some (v, r)) : ∃ t, ts = t :: r := by
  match ts, h with
  | t :: u, h =>
    simp only [valP] at h
    by_cases h4 : t.kind = 4
    · rw [if_pos h4] at h; cases h; exact ⟨t, rfl⟩
    · rw [if_neg h4] at h
      by_cases h3 : t.kind = 3
      · rw [if_pos h3] at h; cases h; exact ⟨t, rfl⟩
      · rw [if_neg h3] at h; cases h
/-- r is what is left of ts behind at least n tokens. -/
def Left (ts r : List Tc) (n : Nat) : Prop := (∃ j, r = ts.drop j) ∧ n + r.length ≤ ts.length
theorem Left.refl (ts : List Tc) : Left ts ts 0 := ⟨⟨0, rfl⟩, by omega⟩
theorem Left.trans {a b c : List Tc} {n m : Nat} (h : Left a b n) (g : Left b c m) : Left a c (n + m) := by
  obtain ⟨⟨i, rfl⟩, h2⟩ := h
  obtain ⟨⟨j, rfl⟩, g2⟩ := g
  exact ⟨⟨i + j, by rw [List.drop_drop]⟩, by omega⟩
theorem Left.mono {a b : List Tc} {n m : Nat} (h : Left a b n) (hm : m ≤ n) : Left a b m := ⟨h.1, by have := h.2; omega⟩
theorem left_cons (t : Tc) (r : List Tc) : Left (t :: r) r 1 := ⟨⟨1, rfl⟩, by simp; omega⟩
theorem takes_left {s : List UInt8} {ts r : List Tc} (h : takes s ts = some r) : Left ts r 1 := by
  obtain ⟨t, rfl, _⟩ := takes_is h
  exact left_cons t r
theorem val_left {ts r : List Tc} {v : Att} (h : valP ts = some (v, r)) : Left ts r 1 := by
  obtain ⟨t, rfl⟩ := val_is h
  exact left_cons t r
theorem vals_left {tx : Bool} : ∀ {n : Nat} {ts r : List Tc} {vs : List Att}, valsP tx n ts = some (vs, r) → Left ts r (vs.length + 1)
  | 0, _, _, _, h => by cases h
  | n + 1, ts, r, vs, h => by
    simp only [valsP] at h
    cases h1 : takes sComma ts with
    | some r1 =>
      simp only [h1] at h
      cases h2 : valP r1 with
      | none => simp [h2] at h
      | some x =>
        obtain ⟨v, r2⟩ := x
        simp only [h2] at h
        split at h
        · cases h3 : valsP tx n r2 with
          | none => simp [h3] at h
          | some x =>
            obtain ⟨us, r3⟩ := x
            simp only [h3] at h
            cases h
            have := ((takes_left h1).trans (val_left h2)).trans (vals_left h3)
            exact this.mono (by simp; omega)
        · cases h
    | none =>
      simp only [h1] at h
      cases h2 : takes sShut ts with
      | none => simp [h2] at h
      | some r1 =>
        simp only [h2] at h
        cases h
        exact takes_left h2
theorem leaf_left {ts r : List Tc} {f : Flt} (h : leafP ts = some (f, r)) : sz f = 1 ∧ Left ts r (f.vals.length + 1) := by
  match ts, h with
  | t :: u, h =>
    simp only [leafP] at h
    split at h
    · cases h1 : takes wIn u with
      | some r1 =>
        simp only [h1] at h
        cases h2 : takes sOpen r1 with
        | none => simp [h2] at h
        | some r2 =>
          simp only [h2] at h
          cases h3 : valP r2 with
          | none => simp [h3] at h
          | some x =>
            obtain ⟨v, r3⟩ := x
            simp only [h3] at h
            cases h4 : valsP v.text (r3.length + 1) r3 with
            | none => simp [h4] at h
            | some x =>
              obtain ⟨vs, r4⟩ := x
              simp only [h4] at h
              cases h
              have := ((((left_cons t u).trans (takes_left h1)).trans (takes_left h2)).trans (val_left h3)).trans (vals_left h4)
              exact ⟨rfl, this.mono (by simp [Flt.vals]; omega)⟩
      | none =>
        simp only [h1] at h
        cases h2 : takes sPre u with
        | some r1 =>
          simp only [h2] at h
          cases h3 : valP r1 with
          | none => simp [h3] at h
          | some x =>
            obtain ⟨v, r2⟩ := x
            simp only [h3] at h
            split at h
            · cases h
              have := ((left_cons t u).trans (takes_left h2)).trans (val_left h3)
              exact ⟨rfl, this.mono (by simp [Flt.vals])⟩
            · cases h
        | none =>
          simp only [h2] at h
          match u, h with
          | o :: r1, h =>
            simp only at h
            split at h
            · cases h3 : valP r1 with
              | none => simp [h3] at h
              | some x =>
                obtain ⟨v, r2⟩ := x
                simp only [h3] at h
                cases h
                have := ((left_cons t (o :: r1)).trans (left_cons o r1)).trans (val_left h3)
                exact ⟨rfl, this.mono (by simp [Flt.vals])⟩
            · cases h
    · cases h
theorem szL_app : ∀ l m : List Flt, szL (l ++ m) = szL l + szL m
  | [], m => by simp [szL]
  | p :: r, m => by
    have := szL_app r m
    simp only [List.cons_append, szL, this]
    omega
theorem add_sz (f x : Flt) : sz (add f x) ≤ sz f + sz x := by
  obtain ⟨k, n, o, v, l⟩ := f
  obtain ⟨k2, n2, o2, v2, l2⟩ := x
  unfold add
  split
  · simp only [sz, Flt.parts, szL_app]; omega
  · simp only [sz, Flt.parts, szL_app, szL]; omega
def Con (sub : List Tc → Option (Flt × List Tc)) : Prop := ∀ ts f r, sub ts = some (f, r) → Left ts r (sz f)
theorem tail_left {w : List UInt8} {sub : List Tc → Option (Flt × List Tc)} (hs : Con sub) : ∀ {n : Nat} {acc f : Flt} {ts r : List Tc}, tailP w sub n acc ts = some (f, r) →
    (takes w ts = none ∧ f = acc ∧ r = ts) ∨ ∃ m, sz f ≤ sz acc + m ∧ Left ts r (m + 1)
  | 0, _, _, _, _, h => by cases h
  | n + 1, acc, f, ts, r, h => by
    simp only [tailP] at h
    cases h1 : takes w ts with
    | none => simp only [h1] at h; cases h; exact Or.inl ⟨rfl, rfl, rfl⟩
    | some r1 =>
      simp only [h1] at h
      cases h2 : sub r1 with
      | none => simp [h2] at h
      | some x =>
        obtain ⟨y, r2⟩ := x
        simp only [h2] at h
        have hl := (takes_left h1).trans (hs _ _ _ h2)
        have ha := add_sz acc y
        rcases tail_left hs h with ⟨_, rfl, rfl⟩ | ⟨m, hm, hr⟩
        · exact Or.inr ⟨sz y, ha, hl.mono (by omega)⟩
        · exact Or.inr ⟨sz y + m, by omega, (hl.trans hr).mono (by omega)⟩
theorem chain_con {w : List UInt8} {k : Int} {sub : List Tc → Option (Flt × List Tc)} (hs : Con sub) : Con (chainP w k sub) := fun ts f r h => by
  simp only [chainP] at h
  cases h1 : sub ts with
  | none => simp [h1] at h
  | some x =>
    obtain ⟨x, r1⟩ := x
    simp only [h1] at h
    have hl := hs _ _ _ h1
    cases h2 : takes w r1 with
    | none => simp only [h2] at h; cases h; exact hl
    | some r2 =>
      simp only [h2] at h
      have ha := add_sz (.mk k [] [] [] []) x
      have h0 : sz (.mk k [] [] [] []) = 1 := rfl
      rcases tail_left hs h with ⟨h3, _, _⟩ | ⟨m, hm, hr⟩
      · rw [h2] at h3; cases h3
      · exact (hl.trans hr).mono (by omega)
theorem not_con : ∀ n : Nat, Con (notP n)
  | 0 => fun ts f r h => by cases h
  | n + 1 => fun ts f r h => by
    have ih := not_con n
    simp only [notP] at h
    cases h1 : takes wNot ts with
    | some r1 =>
      simp only [h1] at h
      cases h2 : notP n r1 with
      | none => simp [h2] at h
      | some x =>
        obtain ⟨x, r2⟩ := x
        simp only [h2] at h
        cases h
        exact ((takes_left h1).trans (ih _ _ _ h2)).mono (by simp [sz, szL]; omega)
    | none =>
      simp only [h1] at h
      cases h2 : takes sOpen ts with
      | some r1 =>
        simp only [h2] at h
        cases h3 : chainP wOr 2 (chainP wAnd 1 (notP n)) r1 with
        | none => simp [h3] at h
        | some x =>
          obtain ⟨x, r2⟩ := x
          simp only [h3] at h
          cases h4 : takes sShut r2 with
          | none => simp [h4] at h
          | some r3 =>
            simp only [h4] at h
            cases h
            exact (((takes_left h2).trans (chain_con (chain_con ih) _ _ _ h3)).trans (takes_left h4)).mono (by omega)
      | none =>
        simp only [h2] at h
        cases h3 : takes wTrue ts with
        | some r1 =>
          simp only [h3] at h
          cases h
          exact takes_left h3
        | none =>
          simp only [h3] at h
          obtain ⟨e, hl⟩ := leaf_left h
          exact hl.mono (by omega)
theorem or_con (n : Nat) : Con (orP n) := chain_con (chain_con (not_con n))
end Go.Proofs.Ytcajcmaldnmbjaa.Fl
