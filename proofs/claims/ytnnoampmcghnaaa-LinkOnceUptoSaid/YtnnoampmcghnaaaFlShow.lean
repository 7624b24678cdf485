/-
  Plain facts on filters' texts: a filter's text is cut into the filter's own tokens. No program here.
-/
import Derived.Test.YtnnoampmcghnaaaFlParse
import Derived.Lib.ItoaNum
namespace Go.Proofs.Ytnnoampmcghnaaa.Fl
open Go.Proofs.Ytnnoampmcghnaaa.Tk
set_option linter.unusedVariables false
set_option linter.unusedSimpArgs false

def core (t : Tok) : Tc := ⟨t.kind, t.num, t.str⟩
/-- What may follow a token, so that it is not longer. -/
def Stp (r : List UInt8) : Prop := ∀ c t, r = c :: t → nmB c = false ∧ c ≠ 61
theorem stp_nil : Stp [] := fun c t h => by cases h
theorem stp_cons {c : UInt8} (h : nmB c = false ∧ c ≠ 61) (r : List UInt8) : Stp (c :: r) := fun d t e => by cases e; exact h
theorem stp32 : nmB 32 = false ∧ (32 : UInt8) ≠ 61 := by decide
theorem stp41 : nmB 41 = false ∧ (41 : UInt8) ≠ 61 := by decide
theorem stp44 : nmB 44 = false ∧ (44 : UInt8) ≠ 61 := by decide
/-- l is cut into T, whatever follows that may. -/
def Cuts (l : List UInt8) (T : List Tc) : Prop := ∀ a rest, Stp rest → ∃ ks : List Tok, ks.map core = T ∧ cutAt a (l ++ rest) = (cutAt (a + l.length) rest).map (ks ++ ·)
/-- l is cut into T, whatever follows. -/
def Free (l : List UInt8) (T : List Tc) : Prop := ∀ a rest, ∃ ks : List Tok, ks.map core = T ∧ cutAt a (l ++ rest) = (cutAt (a + l.length) rest).map (ks ++ ·)
theorem map_two {α : Type} (o : Option (List α)) (k1 k2 : List α) : (o.map (k2 ++ ·)).map (k1 ++ ·) = o.map ((k1 ++ k2) ++ ·) := by cases o <;> simp
theorem Free.cuts {l : List UInt8} {T : List Tc} (h : Free l T) : Cuts l T := fun a rest _ => h a rest
theorem Free.then {l m : List UInt8} {T U : List Tc} (h : Free l T) (g : Cuts m U) : Cuts (l ++ m) (T ++ U) := fun a rest hr => by
  obtain ⟨k1, e1, c1⟩ := h a (m ++ rest)
  obtain ⟨k2, e2, c2⟩ := g (a + l.length) rest hr
  refine ⟨k1 ++ k2, by rw [List.map_append, e1, e2], ?_⟩
  rw [List.append_assoc, c1, c2, map_two, List.length_append, Nat.add_assoc]
theorem Free.free {l m : List UInt8} {T U : List Tc} (h : Free l T) (g : Free m U) : Free (l ++ m) (T ++ U) := fun a rest => by
  obtain ⟨k1, e1, c1⟩ := h a (m ++ rest)
  obtain ⟨k2, e2, c2⟩ := g (a + l.length) rest
  refine ⟨k1 ++ k2, by rw [List.map_append, e1, e2], ?_⟩
  rw [List.append_assoc, c1, c2, map_two, List.length_append, Nat.add_assoc]
theorem Cuts.then {l m : List UInt8} {T U : List Tc} (h : Cuts l T) (hm : ∀ r, Stp (m ++ r)) (g : Cuts m U) : Cuts (l ++ m) (T ++ U) := fun a rest hr => by
  obtain ⟨k1, e1, c1⟩ := h a (m ++ rest) (hm rest)
  obtain ⟨k2, e2, c2⟩ := g (a + l.length) rest hr
  refine ⟨k1 ++ k2, by rw [List.map_append, e1, e2], ?_⟩
  rw [List.append_assoc, c1, c2, map_two, List.length_append, Nat.add_assoc]
theorem Cuts.free {l m : List UInt8} {T U : List Tc} (h : Cuts l T) (hm : ∀ r, Stp (m ++ r)) (g : Free m U) : Free (l ++ m) (T ++ U) := fun a rest => by
  obtain ⟨k1, e1, c1⟩ := h a (m ++ rest) (hm rest)
  obtain ⟨k2, e2, c2⟩ := g (a + l.length) rest
  refine ⟨k1 ++ k2, by rw [List.map_append, e1, e2], ?_⟩
  rw [List.append_assoc, c1, c2, map_two, List.length_append, Nat.add_assoc]
theorem free_space : Free [32] [] := fun a rest => ⟨[], rfl, by rw [List.singleton_append, cutAt_space (by decide)]; simp⟩
theorem free_tok {c : UInt8} (hc : ¬ c.toNat = 32) {x : Lx} (h : ∀ rest, lex (c :: rest) = some x) (hz : x.size = 1) : Free [c] [⟨x.kind, x.num, x.str⟩] := fun a rest => by
  refine ⟨[⟨x.kind, a, x.num, x.str⟩], rfl, ?_⟩
  rw [List.singleton_append, cutAt_some hc a rest (h rest), hz]
  rfl
theorem sign_alone {c : UInt8} (hl : low c = false) (hd : dig c = false) (h1 : ¬ c.toNat = 45) (h2 : ¬ c.toNat = 34) (hs : signB [c] = true) (hn : ∀ d, signB [c, d] = false) (rest : List UInt8) : lex (c :: rest) = some ⟨5, 0, [c], 1⟩ := by
  rw [lex_cons, hl, hd, if_neg (by simp), if_neg (by simpa using h1), if_neg (by simpa using h2)]
  unfold signL
  rw [if_neg]
  · rw [List.take_succ_cons, List.take_zero, if_pos hs]
  · rintro ⟨a, b⟩
    match rest, a, b with
    | d :: r, _, b =>
      rw [List.take_succ_cons, List.take_succ_cons, List.take_zero, hn d] at b
      cases b
theorem sign2_no {c d : UInt8} (h : c ≠ 60 ∧ c ≠ 33 ∧ c ≠ 62 ∧ c ≠ 94) : signB [c, d] = false := by
  simp [signB, h]
theorem free_open : Free [40] [sign sOpen] := free_tok (x := ⟨5, 0, [40], 1⟩) (by decide) (sign_alone (by decide) (by decide) (by decide) (by decide) (by decide) fun d => sign2_no (by decide)) rfl
theorem free_shut : Free [41] [sign sShut] := free_tok (x := ⟨5, 0, [41], 1⟩) (by decide) (sign_alone (by decide) (by decide) (by decide) (by decide) (by decide) fun d => sign2_no (by decide)) rfl
theorem free_comma : Free [44] [sign sComma] := free_tok (x := ⟨5, 0, [44], 1⟩) (by decide) (sign_alone (by decide) (by decide) (by decide) (by decide) (by decide) fun d => sign2_no (by decide)) rfl

theorem run_more (p : UInt8 → Bool) : ∀ (l rest : List UInt8), run p l = l.length → (∀ c t, rest = c :: t → p c = false) → run p (l ++ rest) = l.length
  | [], [], _, _ => rfl
  | [], c :: t, _, h => by simp [run, h c t rfl]
  | d :: l, rest, hl, h => by
    simp only [run, List.length_cons] at hl
    split at hl
    · rename_i hd
      have := run_more p l rest (by omega) h
      simp [run, hd, this]
    · omega
/-- A token that a list is all of is the one that it begins with, too, where what follows ends it. -/
theorem lex_more {l : List UInt8} {x : Lx} (h : lex l = some x) (hz : x.size = l.length) {rest : List UInt8} (hr : Stp rest) : lex (l ++ rest) = some x := by
  match l, h, hz with
  | c :: r, h, hz =>
    rw [← h]
    rw [List.cons_append, lex_cons]
    rw [lex_cons] at h ⊢
    by_cases h1 : low c = true
    · rw [if_pos h1] at h ⊢
      rw [if_pos h1]
      rw [← List.cons_append]
      have hk : run nmB (c :: r) = (c :: r).length := by
        unfold nameL at h
        split at h
        · have e := (Option.some.inj h).symm
          subst e
          exact hz
        · cases h
      have hm := run_more nmB (c :: r) rest hk fun d t e => (hr d t e).1
      unfold nameL
      rw [hm, hk, List.take_left, List.take_length]
    · rw [if_neg h1] at h ⊢
      rw [if_neg h1]
      by_cases h2 : (dig c || c.toNat == 45) = true
      · rw [if_pos h2] at h ⊢
        rw [if_pos h2]
        have hd : ∀ d t, rest = d :: t → dig d = false := fun d t e => by
          have := (hr d t e).1
          simp only [nmB, Bool.or_eq_false_iff] at this
          exact this.2
        rw [numL_cons] at h ⊢
        rw [numL_cons]
        by_cases h3 : (c.toNat == 45) = true
        · rw [if_pos h3] at h ⊢
          rw [if_pos h3]
          split at h
          · cases h
          · have e := (Option.some.inj h).symm
            subst e
            simp only [digs_len, List.length_cons] at hz
            have hk : run dig r = r.length := by omega
            have hm := run_more dig r rest hk hd
            have e2 : digs (r ++ rest) = digs r := by unfold digs; rw [hm, hk, List.take_left, List.take_length]
            rw [e2]
        · rw [if_neg h3] at h ⊢
          rw [if_neg h3]
          split at h
          · cases h
          · have e := (Option.some.inj h).symm
            subst e
            simp only [digs_len] at hz
            have hm := run_more dig (c :: r) rest hz hd
            have e2 : digs (c :: (r ++ rest)) = digs (c :: r) := by rw [← List.cons_append]; unfold digs; rw [hm, hz, List.take_left, List.take_length]
            rw [e2]
      · rw [if_neg h2] at h ⊢
        rw [if_neg h2]
        by_cases h3 : (c.toNat == 34) = true
        · rw [if_pos h3] at h ⊢
          rw [if_pos h3]
          unfold textL at h
          split at h
          · rename_i hn
            have e := (Option.some.inj h).symm
            subst e
            have hk := (List.getElem?_eq_some_iff.1 hn.2).1
            have hm : run inB (r ++ rest) = run inB r := by
              refine run_eq inB _ _ (by simp; omega) (fun j d hj hd => ?_) (fun d hd => ?_)
              · rw [List.getElem?_append_left (by omega)] at hd
                exact run_all inB r j d hj hd
              · rw [List.getElem?_append_left hk, hn.2] at hd
                cases hd
                decide
            unfold textL
            rw [hm, List.getElem?_append_left hk, List.take_append_of_le_length (by omega)]
          · cases h
        · rw [if_neg h3] at h ⊢
          rw [if_neg h3]
          unfold signL at h
          split at h
          · rename_i hn
            have e := (Option.some.inj h).symm
            subst e
            match r, hz with
            | [d], _ =>
              unfold signL
              simp
              rfl
          · rename_i hn
            split at h
            · rename_i hs
              have e := (Option.some.inj h).symm
              subst e
              match r, hz with
              | [], _ =>
                unfold signL
                cases rest with
                | nil => rfl
                | cons d t =>
                  have hne := (hr d t rfl).2
                  have h5 : signB [c, d] = false := by simp [signB, hne]
                  simp [h5]
                  rfl
            · cases h
/-- A list that is one token. -/
theorem cuts_tok {l : List UInt8} {x : Lx} (h : lex l = some x) (hz : x.size = l.length) (h32 : ∀ c t, l = c :: t → ¬ c.toNat = 32) : Cuts l [⟨x.kind, x.num, x.str⟩] := fun a rest hr => by
  match l, h, hz, h32 with
  | c :: r, h, hz, h32 =>
    have hm := lex_more h hz hr
    refine ⟨[⟨x.kind, a, x.num, x.str⟩], rfl, ?_⟩
    rw [List.cons_append] at hm ⊢
    rw [cutAt_some (h32 c r rfl) a _ hm, hz, ← List.cons_append, List.drop_left]
    rfl

/-! ### Numerals -/
theorem digit_nat {k : Nat} (h : k < 10) : (UInt8.ofNat (48 + k)).toNat = 48 + k := by
  simp only [UInt8.toNat_ofNat']
  omega
theorem digit_dig {k : Nat} (h : k < 10) : dig (UInt8.ofNat (48 + k)) = true := by
  simp only [dig, digit_nat h, Bool.and_eq_true, decide_eq_true_eq]
  omega
theorem dd_all : ∀ (u : Nat) (c : UInt8), c ∈ Lib.decDigits u → dig c = true := by
  intro u
  induction u using Nat.strongRecOn with
  | _ u ih =>
    intro c hc
    rw [Lib.decDigits] at hc
    split at hc
    · rw [List.mem_singleton] at hc
      subst hc
      exact digit_dig (by omega)
    · rw [List.mem_append, List.mem_singleton] at hc
      rcases hc with hc | hc
      · exact ih (u / 10) (by omega) c hc
      · subst hc
        exact digit_dig (by omega)
theorem dd_val : ∀ u : Nat, decV (Lib.decDigits u) = u := by
  intro u
  induction u using Nat.strongRecOn with
  | _ u ih =>
    rw [Lib.decDigits]
    split
    · have : decV ([] ++ [UInt8.ofNat (48 + u)]) = decV [] * 10 + ((UInt8.ofNat (48 + u)).toNat - 48) := decV_snoc _ _
      rw [List.nil_append] at this
      rw [this, digit_nat (by omega)]
      unfold decV
      rw [decA_nil]
      omega
    · rw [decV_snoc, ih (u / 10) (by omega), digit_nat (by omega)]
      omega
theorem dd_ne (u : Nat) : Lib.decDigits u ≠ [] := by
  rw [Lib.decDigits]
  split <;> simp
theorem dd_head : ∀ u : Nat, (Lib.decDigits u).head? = some 48 → u = 0 := by
  intro u
  induction u using Nat.strongRecOn with
  | _ u ih =>
    intro h
    rw [Lib.decDigits] at h
    split at h
    · simp only [List.head?_cons, Option.some.injEq] at h
      have h2 := digit_nat (k := u) (by omega)
      rw [h] at h2
      have h3 : (48 : UInt8).toNat = 48 := rfl
      omega
    · have hne := dd_ne (u / 10)
      have h4 : (Lib.decDigits (u / 10)).head? = some 48 := by
        cases hd : Lib.decDigits (u / 10) with
        | nil => exact absurd hd hne
        | cons c r => rw [hd] at h; exact h
      have := ih (u / 10) (by omega) h4
      omega
theorem dd_digs (u : Nat) : digs (Lib.decDigits u) = Lib.decDigits u := by
  unfold digs
  rw [run_whole dig _ (dd_all u), List.take_length]
theorem lex_itoa {n : Int} (h0 : -9223372036854775808 ≤ n) (h1 : n ≤ 9223372036854775807) : lex (Lib.itoa n) = some ⟨3, n, [], (Lib.itoa n).length⟩ := by
  unfold Lib.itoa
  split
  · rename_i hn
    obtain ⟨u, hu⟩ : ∃ u, u = n.natAbs := ⟨_, rfl⟩
    rw [← hu]
    have hlow : low 45 = false := by decide
    rw [lex_cons, hlow, if_neg (by simp), if_pos (by decide), numL_cons, if_pos (by decide), dd_digs, dd_val, if_neg, List.length_cons]
    · congr 2
      omega
    · rintro (h | h | h)
      · exact dd_ne u h
      · have := dd_head u h
        omega
      · omega
  · rename_i hn
    obtain ⟨u, hu⟩ : ∃ u, u = n.toNat := ⟨_, rfl⟩
    rw [← hu]
    cases hd : Lib.decDigits u with
    | nil => exact absurd hd (dd_ne u)
    | cons c r =>
      have hc : dig c = true := dd_all u c (by rw [hd]; simp)
      have hb : 48 ≤ c.toNat ∧ c.toNat ≤ 57 := by simpa only [dig, Bool.and_eq_true, decide_eq_true_eq] using hc
      have hlow : low c = false := by simp only [low, Bool.and_eq_false_iff, decide_eq_false_iff_not]; omega
      have e1 := dd_digs u
      have e2 := dd_val u
      have e3 := dd_head u
      rw [hd] at e1 e2 e3
      rw [lex_cons, hlow, if_neg (by simp), hc, Bool.true_or, if_pos rfl, numL_cons, if_neg (by simp; omega), e1, e2, if_neg]
      · congr 2
        omega
      · rintro (h | ⟨h, g⟩ | h)
        · cases h
        · have h9 := e3 g
          subst h9
          rw [Lib.decDigits, dif_pos (by omega)] at hd
          cases hd
          simp at h
        · omega

/-! ### A filter's text -/
def showV (v : Att) : List UInt8 := if v.text then 34 :: (v.str ++ [34]) else Lib.itoa v.num
def showVs : List Att → List UInt8
  | [] => []
  | v :: r => 44 :: 32 :: (showV v ++ showVs r)
def showOne : List Att → List UInt8
  | [] => []
  | v :: _ => showV v
mutual
def showF : Flt → List UInt8
  | .mk k n o vs l =>
    if k = 7 then wTrue
    else if k = 3 then wNot ++ 32 :: showN l
    else if k = 4 then n ++ 32 :: (o ++ 32 :: showOne vs)
    else if k = 5 then n ++ 32 :: (sPre ++ 32 :: showOne vs)
    else if k = 6 then (match vs with
      | [] => []
      | v :: r => n ++ 32 :: (wIn ++ 32 :: (40 :: (showV v ++ (showVs r ++ [41])))))
    else (match l with
      | [] => []
      | p :: r => showP p ++ showR (andOr k) r)
def showN : List Flt → List UInt8
  | [] => []
  | p :: _ => if p.kind = 7 ∨ p.kind = 3 then showF p else 40 :: (showF p ++ [41])
def showP : Flt → List UInt8
  | .mk k n o vs l => if k = 1 ∨ k = 2 then 40 :: (showF (.mk k n o vs l) ++ [41]) else showF (.mk k n o vs l)
def showR (w : List UInt8) : List Flt → List UInt8
  | [] => []
  | p :: r => 32 :: (w ++ 32 :: (showP p ++ showR w r))
end
/-- Its numbers are int64s. -/
def rngV (v : Att) : Prop := -9223372036854775808 ≤ v.num ∧ v.num ≤ 9223372036854775807
mutual
def rng : Flt → Prop
  | .mk _ _ _ vs l => (∀ v ∈ vs, rngV v) ∧ rngL l
def rngL : List Flt → Prop
  | [] => True
  | p :: r => rng p ∧ rngL r
end
theorem rng_mem : ∀ {l : List Flt}, rngL l → ∀ p ∈ l, rng p
  | [], _, p, hp => by simp at hp
  | q :: r, h, p, hp => by
    rcases List.mem_cons.1 hp with rfl | hp
    · exact h.1
    · exact rng_mem h.2 p hp

theorem space_none {c : UInt8} (h : c.toNat = 32) (r : List UInt8) : lex (c :: r) = none := by
  obtain rfl : c = 32 := UInt8.toNat_inj.1 h
  have h1 : low 32 = false := by decide
  have h2 : dig 32 = false := by decide
  rw [lex_cons, h1, h2, if_neg (by simp), if_neg (by decide), if_neg (by decide)]
  unfold signL
  rw [if_neg, List.take_succ_cons, List.take_zero, if_neg (by decide)]
  rintro ⟨a, b⟩
  match r, a, b with
  | d :: r, _, b =>
    rw [List.take_succ_cons, List.take_succ_cons, List.take_zero, sign2_no (by decide)] at b
    cases b
theorem cuts_of {l : List UInt8} {x : Lx} (h : lex l = some x) (hz : x.size = l.length) : Cuts l [⟨x.kind, x.num, x.str⟩] := cuts_tok h hz fun c t e hc => by
  rw [e, space_none hc t] at h
  cases h
theorem name_lex {n : List UInt8} (h : nameB n = true) : lex n = some ⟨1, 0, n, n.length⟩ := by
  unfold nameB at h
  cases hx : lex n with
  | none => rw [hx] at h; cases h
  | some x =>
    rw [hx] at h
    simp only [Bool.and_eq_true, beq_iff_eq] at h
    obtain ⟨hk, hz⟩ := h
    match n, hx, hz with
    | c :: r, hx, hz =>
      rw [lex_cons] at hx
      split at hx
      · unfold nameL at hx
        split at hx
        · have e := (Option.some.inj hx).symm
          subst e
          simp only at hz hk ⊢
          rw [hz] at hk ⊢
          rw [List.take_length] at hk ⊢
          split at hk
          · cases hk
          · rename_i hw
            rw [if_neg hw]
        · cases hx
      · split at hx
        · rw [numL_cons] at hx
          split at hx
          · split at hx
            · cases hx
            · have e := (Option.some.inj hx).symm
              subst e
              cases hk
          · split at hx
            · cases hx
            · have e := (Option.some.inj hx).symm
              subst e
              cases hk
        · split at hx
          · unfold textL at hx
            split at hx
            · have e := (Option.some.inj hx).symm
              subst e
              cases hk
            · cases hx
          · unfold signL at hx
            split at hx
            · have e := (Option.some.inj hx).symm
              subst e
              cases hk
            · split at hx
              · have e := (Option.some.inj hx).symm
                subst e
                cases hk
              · cases hx
theorem op_lex {o : List UInt8} (h : opB o = true) : lex o = some ⟨5, 0, o, o.length⟩ := by
  simp only [opB, Bool.or_eq_true, beq_iff_eq] at h
  rcases h with ((((rfl | rfl) | rfl) | rfl) | rfl) | rfl <;> rfl
theorem text_lex {s : List UInt8} (h : plainB s = true) : lex (34 :: (s ++ [34])) = some ⟨4, 0, s, (34 :: (s ++ [34])).length⟩ := by
  unfold plainB at h
  rw [Bool.and_eq_true, List.all_eq_true, decide_eq_true_eq] at h
  have h1 : low 34 = false := by decide
  have h2 : dig 34 = false := by decide
  rw [lex_cons, h1, h2, if_neg (by simp), if_neg (by decide), if_pos (by decide)]
  have hm : run inB (s ++ [34]) = s.length := run_more inB s [34] (run_whole inB s fun c hc => h.1 c hc) fun c t e => by cases e; decide
  unfold textL
  rw [hm, if_pos ⟨h.2, by simp⟩, List.take_left]
  simp
theorem cuts_val {v : Att} (h : valB v = true) (hr : rngV v) : Cuts (showV v) [valT v] := by
  obtain ⟨n, tx, x, s⟩ := v
  cases tx
  · simp [valB] at h
    have := cuts_of (lex_itoa hr.1 hr.2) rfl
    simpa [showV, valT] using this
  · simp [valB] at h
    have := cuts_of (text_lex h.2.2) rfl
    simpa [showV, valT] using this
theorem sp {l m : List UInt8} {T U : List Tc} (h : Cuts l T) (g : Cuts m U) : Cuts (l ++ 32 :: m) (T ++ U) := h.then (fun r => stp_cons stp32 _) (free_space.then g)
theorem pa {l : List UInt8} {T : List Tc} (h : Cuts l T) : Cuts (40 :: (l ++ [41])) (sign sOpen :: (T ++ [sign sShut])) := free_open.then (h.then (fun r => stp_cons stp41 _) free_shut.cuts)
theorem cuts_word {w : List UInt8} (h : lex w = some ⟨2, 0, w, w.length⟩) : Cuts w [word w] := cuts_of h rfl
theorem cuts_vals : ∀ (vs : List Att) {l : List UInt8} {T : List Tc}, Cuts l T → (∀ v ∈ vs, valB v = true ∧ rngV v) → Cuts (l ++ showVs vs) (T ++ valsT vs)
  | [], l, T, h, _ => by simpa [showVs, valsT] using h
  | v :: r, l, T, h, hv => by
    have h1 := hv v (List.mem_cons_self ..)
    have h2 : Cuts (l ++ ([44] ++ ([32] ++ showV v))) (T ++ ([sign sComma] ++ ([] ++ [valT v]))) := h.then (fun r => stp_cons stp44 _) (free_comma.then (free_space.then (cuts_val h1.1 h1.2)))
    have h3 := cuts_vals r h2 fun u hu => hv u (List.mem_cons_of_mem _ hu)
    simpa [showVs, valsT] using h3
theorem cuts_rest (w : List UInt8) (hw : lex w = some ⟨2, 0, w, w.length⟩) : ∀ (l : List Flt) {m : List UInt8} {T : List Tc}, Cuts m T → (∀ p ∈ l, Cuts (showP p) (partT p)) → Cuts (m ++ showR w l) (T ++ restT w l)
  | [], m, T, h, _ => by simpa [showR, restT] using h
  | p :: r, m, T, h, hp => by
    have h2 := sp h (sp (cuts_word hw) (hp p (List.mem_cons_self ..)))
    have h3 := cuts_rest w hw r h2 fun q hq => hp q (List.mem_cons_of_mem _ hq)
    simpa [showR, restT] using h3
theorem part_cuts {p : Flt} (h : Cuts (showF p) (toks p)) : Cuts (showP p) (partT p) := by
  match p, h with
  | .mk k n o vs l, h =>
    unfold showP partT
    by_cases hk : k = 1 ∨ k = 2
    · rw [if_pos hk, if_pos hk]
      exact pa h
    · rw [if_neg hk, if_neg hk]
      exact h
theorem leaf_cuts {k : Int} {n o : List UInt8} {vs : List Att} (hk : k = 4 ∨ k = 5 ∨ k = 6) (h : leafB k n o vs = true) (hr : ∀ v ∈ vs, rngV v) : Cuts (showF (.mk k n o vs [])) (toks (.mk k n o vs [])) := by
  match vs, h, hr with
  | v :: r, h, hr =>
    have hv := hr v (List.mem_cons_self ..)
    unfold leafB at h
    rcases hk with rfl | rfl | rfl
    · simp at h
      obtain ⟨⟨⟨⟨h1, h2⟩, h3⟩, h4⟩, h5, h6⟩ := h
      subst h5
      have := sp (cuts_of (name_lex h1) rfl) (sp (cuts_of (op_lex h6) rfl) (cuts_val h2 hv))
      simpa [showF, toks, showOne, sign] using this
    · simp at h
      obtain ⟨⟨⟨⟨h1, h2⟩, h3⟩, h4⟩, ⟨h5, h6⟩, h7⟩ := h
      subst h5
      have hp : lex sPre = some ⟨5, 0, sPre, sPre.length⟩ := rfl
      have := sp (cuts_of (name_lex h1) rfl) (sp (cuts_of hp rfl) (cuts_val h2 hv))
      simpa [showF, toks, showOne, sign] using this
    · simp at h
      obtain ⟨⟨⟨⟨h1, h2⟩, h3⟩, h4⟩, h5⟩ := h
      have hi : lex wIn = some ⟨2, 0, wIn, wIn.length⟩ := rfl
      have h6 := cuts_vals r (cuts_val h2 hv) fun u hu => ⟨(h3 u hu).1, hr u (List.mem_cons_of_mem _ hu)⟩
      have := sp (cuts_of (name_lex h1) rfl) (sp (cuts_word hi) (pa h6))
      simpa [showF, toks, word, List.append_assoc] using this
theorem cuts_show : ∀ (N : Nat) (f : Flt), sz f ≤ N → fine f = true → rng f → Cuts (showF f) (toks f)
  | 0, f, h, _, _ => by have := sz_pos f; omega
  | N + 1, .mk k nm o vs l, hN, hf, hr => by
    simp only [sz] at hN
    simp only [rng] at hr
    have ih : ∀ p ∈ l, fine p = true → Cuts (showF p) (toks p) := fun p hp hfp => cuts_show N p (by have := sz_mem hp; omega) hfp (rng_mem hr.2 p hp)
    by_cases hleaf : k = 4 ∨ k = 5 ∨ k = 6
    · unfold fine at hf
      rw [if_pos hleaf, Bool.and_eq_true, List.isEmpty_iff] at hf
      obtain ⟨hb, rfl⟩ := hf
      exact leaf_cuts hleaf hb hr.1
    · unfold fine at hf
      rw [if_neg hleaf] at hf
      simp only [Bool.and_eq_true, beq_iff_eq, List.isEmpty_iff] at hf
      obtain ⟨⟨⟨⟨rfl, rfl⟩, rfl⟩, hk⟩, hL⟩ := hf
      by_cases h12 : k = 1 ∨ k = 2
      · rw [if_pos h12, decide_eq_true_eq] at hk
        match l, hk, hL, ih with
        | p :: q :: r, _, hL, ih =>
          have hp : ∀ x ∈ p :: q :: r, Cuts (showP x) (partT x) := fun x hx => part_cuts (ih x hx (fine_mem hL x hx).1)
          have hw : lex (andOr k) = some ⟨2, 0, andOr k, (andOr k).length⟩ := by rcases h12 with rfl | rfl <;> rfl
          have h3 := cuts_rest (andOr k) hw (q :: r) (hp p (List.mem_cons_self ..)) fun x hx => hp x (List.mem_cons_of_mem _ hx)
          have e1 : showF (.mk k [] [] [] (p :: q :: r)) = showP p ++ showR (andOr k) (q :: r) := by rcases h12 with rfl | rfl <;> simp [showF]
          have e2 : toks (.mk k [] [] [] (p :: q :: r)) = partT p ++ restT (andOr k) (q :: r) := by rcases h12 with rfl | rfl <;> simp [toks]
          rw [e1, e2]
          exact h3
      · rw [if_neg h12] at hk
        by_cases h3 : k = 3
        · subst h3
          simp at hk
          match l, hk, hL, ih with
          | [p], _, hL, ih =>
            have h4 := ih p (by simp) (fine_mem hL p (by simp)).1
            have h5 : Cuts (showN [p]) (notT [p]) := by
              unfold showN notT
              by_cases h73 : p.kind = 7 ∨ p.kind = 3
              · rw [if_pos h73, if_pos h73]
                exact h4
              · rw [if_neg h73, if_neg h73]
                exact pa h4
            have hn : lex wNot = some ⟨2, 0, wNot, wNot.length⟩ := rfl
            have := sp (cuts_word hn) h5
            simpa [showF, toks] using this
        · rw [if_neg h3] at hk
          simp at hk
          obtain ⟨rfl, rfl⟩ := hk
          have ht : lex wTrue = some ⟨2, 0, wTrue, wTrue.length⟩ := rfl
          simpa [showF, toks] using cuts_word ht
/-- A filter's text is cut into its own tokens, and these are read as it, to their end. -/
theorem show_back {f : Flt} (h : fine f = true) (hr : rng f) : ∃ ks : List Tok, cutAt 0 (showF f) = some ks ∧ ∀ n, 2 * sz f ≤ n → orP n (ks.map core) = some (f, []) := by
  obtain ⟨ks, e, c⟩ := cuts_show (sz f) f (Nat.le_refl _) h hr 0 [] stp_nil
  refine ⟨ks, ?_, fun n hn => by rw [e]; exact back h hn⟩
  rw [List.append_nil] at c
  rw [c, cutAt_nil]
  simp
end Go.Proofs.Ytnnoampmcghnaaa.Fl
