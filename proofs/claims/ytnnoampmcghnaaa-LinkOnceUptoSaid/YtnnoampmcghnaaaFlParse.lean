/-
  Plain facts on filters: what a row of tokens is read as, and that a filter's own tokens are read as it. No program here.
-/
import Derived.Test.YtnnoampmcghnaaaTkPlain
namespace Go.Proofs.Ytnnoampmcghnaaa.Fl
set_option linter.unusedVariables false
set_option linter.unusedSimpArgs false

/-- A value: a text, or a number. -/
structure Att where
  name : List UInt8
  text : Bool
  num : Int
  str : List UInt8
inductive Flt where
  | mk (kind : Int) (name op : List UInt8) (vals : List Att) (parts : List Flt)
def Flt.kind : Flt → Int | .mk k _ _ _ _ => k
def Flt.name : Flt → List UInt8 | .mk _ n _ _ _ => n
def Flt.op : Flt → List UInt8 | .mk _ _ o _ _ => o
def Flt.vals : Flt → List Att | .mk _ _ _ v _ => v
def Flt.parts : Flt → List Flt | .mk _ _ _ _ l => l
/-- What a token is, but for its place. -/
structure Tc where
  kind : Int
  num : Int
  str : List UInt8

def wAnd : List UInt8 := [97, 110, 100]
def wOr : List UInt8 := [111, 114]
def wNot : List UInt8 := [110, 111, 116]
def wIn : List UInt8 := [105, 110]
def wTrue : List UInt8 := [116, 114, 117, 101]
def sOpen : List UInt8 := [40]
def sShut : List UInt8 := [41]
def sComma : List UInt8 := [44]
def sPre : List UInt8 := [94, 61]
def opB (s : List UInt8) : Bool := s == [60] || s == [60, 61] || s == [61] || s == [33, 61] || s == [62, 61] || s == [62]

/-- A word, or a sign, is taken, if it is next. -/
def takes (s : List UInt8) : List Tc → Option (List Tc)
  | [] => none
  | t :: r => if (t.kind = 2 ∨ t.kind = 5) ∧ t.str = s then some r else none
def valP : List Tc → Option (Att × List Tc)
  | [] => none
  | t :: r => if t.kind = 4 then some (⟨[], true, 0, t.str⟩, r) else if t.kind = 3 then some (⟨[], false, t.num, []⟩, r) else none
/-- The values behind the first one, to the ). -/
def valsP (text : Bool) : Nat → List Tc → Option (List Att × List Tc)
  | 0, _ => none
  | n + 1, ts =>
    match takes sComma ts with
    | some r =>
      match valP r with
      | none => none
      | some (v, r2) =>
        if v.text = text then
          match valsP text n r2 with
          | none => none
          | some (vs, r3) => some (v :: vs, r3)
        else none
    | none =>
      match takes sShut ts with
      | none => none
      | some r => some ([], r)
def leafP : List Tc → Option (Flt × List Tc)
  | [] => none
  | t :: r =>
    if t.kind = 1 then
      match takes wIn r with
      | some r1 =>
        match takes sOpen r1 with
        | none => none
        | some r2 =>
          match valP r2 with
          | none => none
          | some (v, r3) =>
            match valsP v.text (r3.length + 1) r3 with
            | none => none
            | some (vs, r4) => some (.mk 6 t.str [] (v :: vs) [], r4)
      | none =>
        match takes sPre r with
        | some r1 =>
          match valP r1 with
          | none => none
          | some (v, r2) => if v.text then some (.mk 5 t.str [] [v] [], r2) else none
        | none =>
          match r with
          | [] => none
          | o :: r1 =>
            if o.kind = 5 ∧ opB o.str = true then
              match valP r1 with
              | none => none
              | some (v, r2) => some (.mk 4 t.str o.str [v] [], r2)
            else none
    else none
/-- A part comes to a filter of a sort: its parts, if it is one. -/
def add (f x : Flt) : Flt := if x.kind = f.kind then .mk f.kind f.name f.op f.vals (f.parts ++ x.parts) else .mk f.kind f.name f.op f.vals (f.parts ++ [x])
def tailP (w : List UInt8) (sub : List Tc → Option (Flt × List Tc)) : Nat → Flt → List Tc → Option (Flt × List Tc)
  | 0, _, _ => none
  | n + 1, acc, ts =>
    match takes w ts with
    | none => some (acc, ts)
    | some r =>
      match sub r with
      | none => none
      | some (y, r2) => tailP w sub n (add acc y) r2
def chainP (w : List UInt8) (k : Int) (sub : List Tc → Option (Flt × List Tc)) (ts : List Tc) : Option (Flt × List Tc) :=
  match sub ts with
  | none => none
  | some (x, r) =>
    match takes w r with
    | none => some (x, r)
    | some _ => tailP w sub (r.length + 1) (add (.mk k [] [] [] []) x) r
def notP : Nat → List Tc → Option (Flt × List Tc)
  | 0, _ => none
  | n + 1, ts =>
    match takes wNot ts with
    | some r =>
      match notP n r with
      | none => none
      | some (x, r2) => some (.mk 3 [] [] [] [x], r2)
    | none =>
      match takes sOpen ts with
      | some r =>
        match chainP wOr 2 (chainP wAnd 1 (notP n)) r with
        | none => none
        | some (f, r2) =>
          match takes sShut r2 with
          | none => none
          | some r3 => some (f, r3)
      | none =>
        match takes wTrue ts with
        | some r => some (.mk 7 [] [] [] [], r)
        | none => leafP ts
def orP (n : Nat) : List Tc → Option (Flt × List Tc) := chainP wOr 2 (chainP wAnd 1 (notP n))

/-! ### A filter's own tokens -/
def word (s : List UInt8) : Tc := ⟨2, 0, s⟩
def sign (s : List UInt8) : Tc := ⟨5, 0, s⟩
def valT (v : Att) : Tc := if v.text then ⟨4, 0, v.str⟩ else ⟨3, v.num, []⟩
def valsT : List Att → List Tc
  | [] => []
  | v :: r => sign sComma :: valT v :: valsT r
def andOr (k : Int) : List UInt8 := if k = 2 then wOr else wAnd
mutual
def toks : Flt → List Tc
  | .mk k n o vs l =>
    if k = 7 then [word wTrue]
    else if k = 3 then word wNot :: notT l
    else if k = 4 then ⟨1, 0, n⟩ :: sign o :: vs.map valT
    else if k = 5 then ⟨1, 0, n⟩ :: sign sPre :: vs.map valT
    else if k = 6 then (match vs with
      | [] => []
      | v :: r => ⟨1, 0, n⟩ :: word wIn :: sign sOpen :: valT v :: (valsT r ++ [sign sShut]))
    else (match l with
      | [] => []
      | p :: r => partT p ++ restT (andOr k) r)
/-- A not's part. -/
def notT : List Flt → List Tc
  | [] => []
  | p :: _ => if p.kind = 7 ∨ p.kind = 3 then toks p else sign sOpen :: (toks p ++ [sign sShut])
/-- A part of an and, an or. -/
def partT : Flt → List Tc
  | .mk k n o vs l => if k = 1 ∨ k = 2 then sign sOpen :: (toks (.mk k n o vs l) ++ [sign sShut]) else toks (.mk k n o vs l)
def restT (w : List UInt8) : List Flt → List Tc
  | [] => []
  | p :: r => word w :: (partT p ++ restT w r)
end

/-! ### Filters that may be -/
def nameB (l : List UInt8) : Bool := match Tk.lex l with
  | none => false
  | some x => x.kind == 1 && x.size == l.length
def plainB (l : List UInt8) : Bool := l.all (fun c => decide (32 ≤ c.toNat) && decide (c.toNat ≤ 126) && !(c.toNat == 34)) && decide (l.length ≤ 200)
def valB (v : Att) : Bool := v.name == [] && (if v.text then v.num == 0 && plainB v.str else v.str == [])
def leafB (k : Int) (n o : List UInt8) : List Att → Bool
  | [] => false
  | v :: r => nameB n && valB v && r.all (fun u => valB u && u.text == v.text) && decide (r.length < 20) && (if k = 6 then o == [] else if k = 5 then r.isEmpty && v.text && o == [] else r.isEmpty && opB o)
mutual
def fine : Flt → Bool
  | .mk k n o vs l =>
    if k = 4 ∨ k = 5 ∨ k = 6 then leafB k n o vs && l.isEmpty
    else n == [] && o == [] && vs.isEmpty && (if k = 1 ∨ k = 2 then decide (2 ≤ l.length) else if k = 3 then decide (l.length = 1) else decide (k = 7) && l.isEmpty) && fineL k l
def fineL (k : Int) : List Flt → Bool
  | [] => true
  | p :: r => fine p && (decide (k = 3) || !decide (p.kind = k)) && fineL k r
end
mutual
def sz : Flt → Nat
  | .mk _ _ _ _ l => szL l + 1
def szL : List Flt → Nat
  | [] => 0
  | p :: r => sz p + szL r
end

/-! ### What is taken -/
theorem takes_word (s : List UInt8) (r : List Tc) : takes s (word s :: r) = some r := by simp [takes, word]
theorem takes_sign (s : List UInt8) (r : List Tc) : takes s (sign s :: r) = some r := by simp [takes, sign]
theorem takes_ne {s u : List UInt8} (k : Int) (x : Int) (r : List Tc) (h : u ≠ s) : takes s (⟨k, x, u⟩ :: r) = none := by simp [takes, h]
theorem takes_kind {s u : List UInt8} {k : Int} (x : Int) (r : List Tc) (h : k ≠ 2) (h5 : k ≠ 5) : takes s (⟨k, x, u⟩ :: r) = none := by simp [takes, h, h5]
theorem val_back {v : Att} (h : valB v = true) (r : List Tc) : valP (valT v :: r) = some (v, r) := by
  obtain ⟨n, tx, x, s⟩ := v
  cases tx <;> simp [valB] at h <;> simp [valT, valP, h]
theorem vals_back (tx : Bool) : ∀ (vs : List Att) (n : Nat) (rest : List Tc), vs.all (fun u => valB u && u.text == tx) = true → vs.length < n → valsP tx n (valsT vs ++ sign sShut :: rest) = some (vs, rest)
  | [], n + 1, rest, _, _ => by
    have h1 : takes sComma (sign sShut :: rest) = none := takes_ne _ _ _ (by decide)
    simp only [valsT, List.nil_append, valsP, h1, takes_sign]
  | [], 0, _, _, h => by simp at h
  | v :: r, 0, _, _, h => by simp at h
  | v :: r, n + 1, rest, h, hn => by
    simp only [List.all_cons, Bool.and_eq_true, beq_iff_eq] at h
    have ih := vals_back tx r n rest h.2 (by simpa using hn)
    simp only [valsT, List.cons_append, valsP, takes_sign, val_back h.1.1, h.1.2, if_true, ih]
theorem valsT_len : ∀ vs : List Att, vs.length ≤ (valsT vs).length
  | [] => Nat.le_refl _
  | v :: r => by have := valsT_len r; simp [valsT]; omega

theorem op_ne {o s : List UInt8} (h : opB o = true) (hs : opB s = false) : o ≠ s := fun e => by rw [e, hs] at h; cases h
theorem leaf_back {k : Int} {n o : List UInt8} {vs : List Att} (hk : k = 4 ∨ k = 5 ∨ k = 6) (h : leafB k n o vs = true) (rest : List Tc) :
    leafP (toks (.mk k n o vs []) ++ rest) = some (.mk k n o vs [], rest) := by
  match vs, h with
  | v :: r, h =>
    unfold leafB at h
    rcases hk with rfl | rfl | rfl
    · simp at h
      obtain ⟨⟨⟨⟨h1, h2⟩, h3⟩, h4⟩, h5, h6⟩ := h
      subst h5
      have e1 : takes wIn (sign o :: valT v :: rest) = none := takes_ne _ _ _ (op_ne h6 (by decide))
      have e2 : takes sPre (sign o :: valT v :: rest) = none := takes_ne _ _ _ (op_ne h6 (by decide))
      simp [toks, leafP, e1, e2, h6, val_back h2]
      simp [sign, h6]
    · simp at h
      obtain ⟨⟨⟨⟨h1, h2⟩, h3⟩, h4⟩, ⟨h5, h6⟩, h7⟩ := h
      subst h5
      subst h7
      have e1 : takes wIn (sign sPre :: valT v :: rest) = none := takes_ne _ _ _ (by decide)
      simp [toks, leafP, e1, takes_sign, val_back h2, h6]
    · simp at h
      obtain ⟨⟨⟨⟨h1, h2⟩, h3⟩, h4⟩, h5⟩ := h
      subst h5
      have ha : r.all (fun u => valB u && u.text == v.text) = true := by
        rw [List.all_eq_true]
        intro u hu
        have := h3 u hu
        simp [this]
      have hv := vals_back v.text r ((valsT r ++ sign sShut :: rest).length + 1) rest ha (by have := valsT_len r; simp; omega)
      have e : toks (.mk 6 n [] (v :: r) []) = ⟨1, 0, n⟩ :: word wIn :: sign sOpen :: valT v :: (valsT r ++ [sign sShut]) := by simp [toks]
      rw [e]
      simp only [List.cons_append, List.append_assoc, List.nil_append, leafP, takes_word, takes_sign, val_back h2, if_true, hv]

/-! ### Chains -/
theorem add_part {k : Int} {l : List Flt} {x : Flt} (h : x.kind ≠ k) : add (.mk k [] [] [] l) x = .mk k [] [] [] (l ++ [x]) := by
  unfold add
  rw [if_neg (show ¬ x.kind = (Flt.mk k [] [] [] l).kind from h)]
  rfl
theorem tail_back (w : List UInt8) (k : Int) (sub : List Tc → Option (Flt × List Tc)) (G : List Tc → Prop) (hG : ∀ r, G (word w :: r)) (rest : List Tc) (hr : G rest) (ht : takes w rest = none) :
    ∀ (l : List Flt) (n : Nat) (acc : List Flt), (∀ p ∈ l, p.kind ≠ k ∧ ∀ r, G r → sub (partT p ++ r) = some (p, r)) → l.length < n →
      tailP w sub n (.mk k [] [] [] acc) (restT w l ++ rest) = some (.mk k [] [] [] (acc ++ l), rest)
  | [], n + 1, acc, _, _ => by simp [restT, tailP, ht]
  | _, 0, _, _, h => by simp at h
  | p :: r, n + 1, acc, h, hn => by
    obtain ⟨hk, hs⟩ := h p (List.mem_cons_self ..)
    have hg : G (restT w r ++ rest) := by
      cases r with
      | nil => simpa [restT] using hr
      | cons q r => simpa [restT] using hG _
    have ih := tail_back w k sub G hG rest hr ht r n (acc ++ [p]) (fun q hq => h q (List.mem_cons_of_mem _ hq)) (by simpa using hn)
    simp only [restT, List.cons_append, List.append_assoc, tailP, takes_word, hs _ hg, add_part hk]
    rw [ih]
    simp
theorem restT_len (w : List UInt8) : ∀ l : List Flt, l.length ≤ (restT w l).length
  | [] => Nat.zero_le _
  | p :: r => by have := restT_len w r; simp [restT]; omega
theorem chain_one (w : List UInt8) (k : Int) (sub : List Tc → Option (Flt × List Tc)) {ts rest : List Tc} {f : Flt} (h : sub ts = some (f, rest)) (ht : takes w rest = none) : chainP w k sub ts = some (f, rest) := by
  simp [chainP, h, ht]
theorem chain_many (w : List UInt8) (k : Int) (sub : List Tc → Option (Flt × List Tc)) (G : List Tc → Prop) (hG : ∀ r, G (word w :: r)) (rest : List Tc) (hr : G rest) (ht : takes w rest = none)
    (p q : Flt) (l : List Flt) (h : ∀ x ∈ p :: q :: l, x.kind ≠ k ∧ ∀ r, G r → sub (partT x ++ r) = some (x, r)) :
    chainP w k sub (partT p ++ (restT w (q :: l) ++ rest)) = some (.mk k [] [] [] (p :: q :: l), rest) := by
  obtain ⟨hk, hs⟩ := h p (List.mem_cons_self ..)
  have h1 := hs (restT w (q :: l) ++ rest) (by simpa [restT] using hG _)
  have h2 : takes w (restT w (q :: l) ++ rest) = some (partT q ++ restT w l ++ rest) := by simp [restT, takes_word]
  have h3 := tail_back w k sub G hG rest hr ht (q :: l) ((restT w (q :: l) ++ rest).length + 1) [p] (fun x hx => h x (List.mem_cons_of_mem _ hx)) (by have := restT_len w (q :: l); simp at this ⊢; omega)
  simp only [chainP, h1, h2, add_part hk]
  simpa using h3

/-! ### A filter's own tokens are read as it -/
theorem fine_mem {k : Int} : ∀ {l : List Flt}, fineL k l = true → ∀ p ∈ l, fine p = true ∧ (k = 3 ∨ p.kind ≠ k)
  | [], _, p, hp => by simp at hp
  | q :: r, h, p, hp => by
    simp only [fineL, Bool.and_eq_true, Bool.or_eq_true, decide_eq_true_eq, Bool.not_eq_true', decide_eq_false_iff_not] at h
    rcases List.mem_cons.1 hp with rfl | hp
    · exact ⟨h.1.1, h.1.2⟩
    · exact fine_mem h.2 p hp
theorem sz_mem : ∀ {l : List Flt} {p : Flt}, p ∈ l → sz p ≤ szL l
  | [], _, h => by simp at h
  | q :: r, p, h => by
    rcases List.mem_cons.1 h with rfl | h
    · simp only [szL]; omega
    · have := sz_mem h; simp only [szL]; omega
theorem sz_pos : ∀ f : Flt, 1 ≤ sz f
  | .mk _ _ _ _ l => by simp only [sz]; omega
/-- Neither an and nor an or goes on. -/
def Ends (r : List Tc) : Prop := takes wAnd r = none ∧ takes wOr r = none
theorem ends_shut (r : List Tc) : Ends (sign sShut :: r) := ⟨takes_ne _ _ _ (by decide), takes_ne _ _ _ (by decide)⟩
structure Reads (f : Flt) (n : Nat) : Prop where
  unit : ¬ (f.kind = 1 ∨ f.kind = 2) → ∀ rest, notP n (toks f ++ rest) = some (f, rest)
  all : ∀ rest, Ends rest → orP n (toks f ++ rest) = some (f, rest)
theorem open_shut {f : Flt} {n : Nat} (h : ∀ rest, Ends rest → orP n (toks f ++ rest) = some (f, rest)) (rest : List Tc) : notP (n + 1) (sign sOpen :: (toks f ++ [sign sShut]) ++ rest) = some (f, rest) := by
  have h1 : takes wNot (sign sOpen :: (toks f ++ [sign sShut] ++ rest)) = none := takes_ne _ _ _ (by decide)
  have h2 := h (sign sShut :: rest) (ends_shut rest)
  unfold orP at h2
  have e : toks f ++ [sign sShut] ++ rest = toks f ++ sign sShut :: rest := by simp
  rw [List.cons_append, notP, h1, takes_sign, e]
  simp only [h2, takes_sign]
theorem part_back {p : Flt} {n : Nat} (h1 : Reads p n) (h2 : Reads p (n + 1)) (rest : List Tc) : notP (n + 1) (partT p ++ rest) = some (p, rest) := by
  match p, h1, h2 with
  | .mk k nm o vs l, h1, h2 =>
    unfold partT
    by_cases hk : k = 1 ∨ k = 2
    · rw [if_pos hk]
      exact open_shut h1.all rest
    · rw [if_neg hk]
      exact h2.unit hk rest
theorem reads : ∀ (N : Nat) (f : Flt), sz f ≤ N → fine f = true → ∀ n, 2 * sz f ≤ n → Reads f n
  | 0, f, h, _, _, _ => by have := sz_pos f; omega
  | N + 1, .mk k nm o vs l, hN, hf, n, hn => by
    simp only [sz] at hN hn
    obtain ⟨m, rfl⟩ : ∃ m, n = m + 1 := ⟨n - 1, by omega⟩
    have ih : ∀ p ∈ l, fine p = true → ∀ j, 2 * sz p ≤ j → Reads p j := fun p hp hfp j hj => reads N p (by have := sz_mem hp; omega) hfp j hj
    -- what a unit is read as, a chain of one is
    have one : (∀ rest, notP (m + 1) (toks (.mk k nm o vs l) ++ rest) = some (.mk k nm o vs l, rest)) → Reads (.mk k nm o vs l) (m + 1) := fun h =>
      ⟨fun _ => h, fun rest hr => chain_one _ _ _ (chain_one _ _ _ (h rest) hr.1) hr.2⟩
    by_cases hleaf : k = 4 ∨ k = 5 ∨ k = 6
    · unfold fine at hf
      rw [if_pos hleaf, Bool.and_eq_true, List.isEmpty_iff] at hf
      obtain ⟨hb, rfl⟩ := hf
      refine one fun rest => ?_
      obtain ⟨T, hT⟩ : ∃ T, toks (.mk k nm o vs []) = ⟨1, 0, nm⟩ :: T := by
        match vs, hb with
        | v :: r, hb => rcases hleaf with rfl | rfl | rfl <;> exact ⟨_, by simp [toks]; rfl⟩
      have hl := leaf_back hleaf hb rest
      rw [hT, List.cons_append] at hl ⊢
      have e1 : takes wNot (⟨1, 0, nm⟩ :: (T ++ rest)) = none := takes_kind _ _ (by decide) (by decide)
      have e2 : takes sOpen (⟨1, 0, nm⟩ :: (T ++ rest)) = none := takes_kind _ _ (by decide) (by decide)
      have e3 : takes wTrue (⟨1, 0, nm⟩ :: (T ++ rest)) = none := takes_kind _ _ (by decide) (by decide)
      rw [notP, e1, e2, e3]
      exact hl
    · unfold fine at hf
      rw [if_neg hleaf] at hf
      simp only [Bool.and_eq_true, beq_iff_eq, List.isEmpty_iff] at hf
      obtain ⟨⟨⟨⟨rfl, rfl⟩, rfl⟩, hk⟩, hL⟩ := hf
      by_cases h12 : k = 1 ∨ k = 2
      · rw [if_pos h12, decide_eq_true_eq] at hk
        match l, hk, hL, ih with
        | p :: q :: r, _, hL, ih =>
          have hp := fine_mem hL
          have hsub : ∀ x ∈ p :: q :: r, ∀ rest, notP (m + 1) (partT x ++ rest) = some (x, rest) := fun x hx rest => by
            have h1 := sz_mem hx
            exact part_back (ih x hx (hp x hx).1 m (by omega)) (ih x hx (hp x hx).1 (m + 1) (by omega)) rest
          have hne : ∀ x ∈ p :: q :: r, x.kind ≠ k := fun x hx => by
            rcases (hp x hx).2 with h | h
            · omega
            · exact h
          refine ⟨fun h => absurd h12 h, fun rest hr => ?_⟩
          rcases h12 with rfl | rfl
          · have e : toks (.mk 1 [] [] [] (p :: q :: r)) = partT p ++ restT wAnd (q :: r) := by simp [toks, andOr]
            rw [e, List.append_assoc]
            refine chain_one _ _ _ ?_ hr.2
            exact chain_many wAnd 1 (notP (m + 1)) (fun _ => True) (fun _ => trivial) rest trivial hr.1 p q r fun x hx => ⟨hne x hx, fun rest _ => hsub x hx rest⟩
          · have e : toks (.mk 2 [] [] [] (p :: q :: r)) = partT p ++ restT wOr (q :: r) := by simp [toks, andOr]
            rw [e, List.append_assoc]
            exact chain_many wOr 2 (chainP wAnd 1 (notP (m + 1))) (fun r => takes wAnd r = none) (fun _ => takes_ne _ _ _ (by decide)) rest hr.1 hr.2 p q r fun x hx => ⟨hne x hx, fun rest hg => chain_one _ _ _ (hsub x hx rest) hg⟩
      · rw [if_neg h12] at hk
        by_cases h3 : k = 3
        · subst h3
          simp at hk
          match l, hk, hL, ih with
          | [p], _, hL, ih =>
            have hp := fine_mem hL p (by simp)
            simp only [szL] at hn
            refine one fun rest => ?_
            have e : toks (.mk 3 [] [] [] [p]) = word wNot :: notT [p] := by simp [toks]
            have e2 : notP m (notT [p] ++ rest) = some (p, rest) := by
              unfold notT
              by_cases h73 : p.kind = 7 ∨ p.kind = 3
              · rw [if_pos h73]
                exact (ih p (by simp) hp.1 m (by omega)).unit (by omega) rest
              · rw [if_neg h73]
                obtain ⟨j, rfl⟩ : ∃ j, m = j + 1 := ⟨m - 1, by omega⟩
                exact open_shut (ih p (by simp) hp.1 j (by omega)).all rest
            rw [e, List.cons_append, notP, takes_word]
            simp only [e2]
        · rw [if_neg h3] at hk
          simp at hk
          obtain ⟨rfl, rfl⟩ := hk
          refine one fun rest => ?_
          have e : toks (.mk 7 [] [] [] []) = [word wTrue] := by simp [toks]
          have e1 : takes wNot (word wTrue :: rest) = none := takes_ne _ _ _ (by decide)
          have e2 : takes sOpen (word wTrue :: rest) = none := takes_ne _ _ _ (by decide)
          rw [e, List.singleton_append, notP, e1, e2, takes_word]
/-- A filter that may be, told by its tokens, is read as it, to their end. -/
theorem back {f : Flt} (h : fine f = true) {n : Nat} (hn : 2 * sz f ≤ n) : orP n (toks f) = some (f, []) := by
  have := (reads (sz f) f (Nat.le_refl _) h n hn).all [] ⟨rfl, rfl⟩
  simpa using this
end Go.Proofs.Ytnnoampmcghnaaa.Fl
