/-
  Contract of the document's answer one, where a name begins. Memory that was there is left as it was.
-/
import Derived.Test.YtcajcmaldnmbjaaMl02
import Derived.Test.YtcajcmaldnmbjaaProg
import Derived.Test.YtcajcmaldnmbjaaMl01
import Derived.WalkKit
import Derived.WalkSpells
import Derived.Lib.Strings
import Derived.Lib.Hide
import Derived.Below
import Derived.Handy
import Derived.KernelRfl
import Derived.Lib.IndexBytes
import Derived.Shelf.Small.Strs
import Derived.Shelf.Strings.Prefix
import Derived.WalkSmall
import Derived.Maps.AppendAt
import Derived.OwnWalk
import Derived.LaidEql
/-
  Plain facts on filters: what is read of good tokens may be, but for its limits. No program here.
-/
namespace Go.Proofs.Ytcajcmaldnmbjaa.Fl
set_option linter.unusedVariables false
set_option linter.unusedSimpArgs false

/-- As leafB and fine, however many values there are. -/
def leafO (k : Int) (n o : List UInt8) : List Att → Bool
  | [] => false
  | v :: r => nameB n && valB v && r.all (fun u => valB u && u.text == v.text) && (if k = 6 then o == [] else if k = 5 then r.isEmpty && v.text && o == [] else r.isEmpty && opB o)
mutual
def fineO : Flt → Bool
  | .mk k n o vs l =>
    if k = 4 ∨ k = 5 ∨ k = 6 then leafO k n o vs && l.isEmpty
    else n == [] && o == [] && vs.isEmpty && (if k = 1 ∨ k = 2 then decide (2 ≤ l.length) else if k = 3 then decide (l.length = 1) else decide (k = 7) && l.isEmpty) && fineOL k l
def fineOL (k : Int) : List Flt → Bool
  | [] => true
  | p :: r => fineO p && (decide (k = 3) || !decide (p.kind = k)) && fineOL k r
end
mutual
/-- No more than twenty values anywhere. -/
def slim : Flt → Bool
  | .mk _ _ _ vs l => decide (vs.length ≤ 20) && slimL l
def slimL : List Flt → Bool
  | [] => true
  | p :: r => slim p && slimL r
end
theorem leaf_of {k : Int} {n o : List UInt8} {vs : List Att} (h : leafO k n o vs = true) (hs : vs.length ≤ 20) : leafB k n o vs = true := by
  match vs, h, hs with
  | v :: r, h, hs =>
    have hr : r.length < 20 := by rw [List.length_cons] at hs; omega
    simp only [leafO, Bool.and_eq_true] at h
    simp only [leafB, Bool.and_eq_true, decide_eq_true_eq]
    exact ⟨⟨h.1, hr⟩, h.2⟩
mutual
theorem fine_of : ∀ f : Flt, fineO f = true → slim f = true → fine f = true
  | .mk k n o vs l, h, hs => by
    simp only [slim, Bool.and_eq_true, decide_eq_true_eq] at hs
    unfold fineO at h
    unfold fine
    by_cases hk : k = 4 ∨ k = 5 ∨ k = 6
    · rw [if_pos hk, Bool.and_eq_true] at h ⊢
      exact ⟨leaf_of h.1 hs.1, h.2⟩
    · rw [if_neg hk, Bool.and_eq_true] at h ⊢
      exact ⟨h.1, fineL_of k l h.2 hs.2⟩
theorem fineL_of (k : Int) : ∀ l : List Flt, fineOL k l = true → slimL l = true → fineL k l = true
  | [], _, _ => rfl
  | p :: r, h, hs => by
    simp only [slimL, Bool.and_eq_true] at hs
    simp only [fineOL, Bool.and_eq_true] at h
    simp only [fineL, Bool.and_eq_true]
    exact ⟨⟨fine_of p h.1.1 hs.1, h.1.2⟩, fineL_of k r h.2 hs.2⟩
end
mutual
theorem of_fine : ∀ f : Flt, fine f = true → fineO f = true ∧ slim f = true
  | .mk k n o vs l, h => by
    unfold fine at h
    unfold fineO slim
    by_cases hk : k = 4 ∨ k = 5 ∨ k = 6
    · rw [if_pos hk, Bool.and_eq_true] at h
      rw [if_pos hk]
      match vs, h with
      | v :: r, h =>
        simp only [leafB, Bool.and_eq_true, decide_eq_true_eq] at h
        have hl : l = [] := by simpa using h.2
        subst hl
        simp only [leafO, Bool.and_eq_true, slimL, decide_eq_true_eq, List.length_cons]
        exact ⟨⟨⟨h.1.1.1, h.1.2⟩, h.2⟩, by omega, trivial⟩
    · rw [if_neg hk, Bool.and_eq_true] at h
      rw [if_neg hk]
      have hv : vs = [] := by have h1 := h.1; simp only [Bool.and_eq_true] at h1; simpa using h1.1.2
      have := of_fineL k l h.2
      subst hv
      have h1 := h.1
      simp only [Bool.and_eq_true, decide_eq_true_eq] at h1 ⊢
      exact ⟨⟨h1, this.1⟩, by simp, this.2⟩
theorem of_fineL (k : Int) : ∀ l : List Flt, fineL k l = true → fineOL k l = true ∧ slimL l = true
  | [], _ => ⟨rfl, rfl⟩
  | p :: r, h => by
    simp only [fineL, Bool.and_eq_true] at h
    have h1 := of_fine p h.1.1
    have h2 := of_fineL k r h.2
    simp only [fineOL, slimL, Bool.and_eq_true]
    exact ⟨⟨⟨h1.1, h.1.2⟩, h2.1⟩, h1.2, h2.2⟩
end

/-- A good token: a name is one, a text may be. -/
def Okay (ts : List Tc) : Prop := ∀ t ∈ ts, (t.kind = 1 → nameB t.str = true) ∧ (t.kind = 4 → plainB t.str = true)
theorem Okay.left {ts r : List Tc} {n : Nat} (h : Okay ts) (hl : Left ts r n) : Okay r := by
  obtain ⟨⟨j, rfl⟩, _⟩ := hl
  exact fun t ht => h t (List.mem_of_mem_drop ht)
theorem val_good {ts r : List Tc} {v : Att} (ho : Okay ts) (h : valP ts = some (v, r)) : valB v = true := by
  match ts, ho, h with
  | t :: u, ho, h =>
    have ht := ho t (List.mem_cons_self ..)
    simp only [valP] at h
    by_cases h4 : t.kind = 4
    · rw [if_pos h4] at h; cases h; simp [valB, ht.2 h4]
    · rw [if_neg h4] at h
      by_cases h3 : t.kind = 3
      · rw [if_pos h3] at h; cases h; simp [valB]
      · rw [if_neg h3] at h; cases h
theorem vals_good {tx : Bool} : ∀ {n : Nat} {ts r : List Tc} {vs : List Att}, Okay ts → valsP tx n ts = some (vs, r) → vs.all (fun u => valB u && u.text == tx) = true
  | 0, _, _, _, _, h => by cases h
  | n + 1, ts, r, vs, ho, h => by
    simp only [valsP] at h
    cases h1 : takes sComma ts with
    | some r1 =>
      simp only [h1] at h
      have o1 := ho.left (takes_left h1)
      cases h2 : valP r1 with
      | none => simp [h2] at h
      | some x =>
        obtain ⟨v, r2⟩ := x
        simp only [h2] at h
        by_cases ht : v.text = tx
        · rw [if_pos ht] at h
          cases h3 : valsP tx n r2 with
          | none => simp [h3] at h
          | some x =>
            obtain ⟨us, r3⟩ := x
            simp only [h3] at h
            cases h
            have ih := vals_good (o1.left (val_left h2)) h3
            simp only [List.all_cons, Bool.and_eq_true, beq_iff_eq]
            exact ⟨⟨val_good o1 h2, ht⟩, ih⟩
        · rw [if_neg ht] at h; cases h
    | none =>
      simp only [h1] at h
      cases h2 : takes sShut ts with
      | none => simp [h2] at h
      | some r1 =>
        simp only [h2] at h
        cases h
        rfl
theorem leaf_good {ts r : List Tc} {f : Flt} (ho : Okay ts) (h : leafP ts = some (f, r)) : fineO f = true := by
  match ts, ho, h with
  | t :: u, ho, h =>
    have ht := ho t (List.mem_cons_self ..)
    have ou : Okay u := fun x hx => ho x (List.mem_cons_of_mem _ hx)
    simp only [leafP] at h
    by_cases hk : t.kind = 1
    · rw [if_pos hk] at h
      have hn := ht.1 hk
      cases h1 : takes wIn u with
      | some r1 =>
        simp only [h1] at h
        have o1 := ou.left (takes_left h1)
        cases h2 : takes sOpen r1 with
        | none => simp [h2] at h
        | some r2 =>
          simp only [h2] at h
          have o2 := o1.left (takes_left h2)
          cases h3 : valP r2 with
          | none => simp [h3] at h
          | some x =>
            obtain ⟨v, r3⟩ := x
            simp only [h3] at h
            cases h4 : valsP v.text (r3.length + 1) r3 with
            | none => simp [h4] at h
            | some x =>
              obtain ⟨vs, r4⟩ := x
              simp only [h4] at h
              cases h
              have hv := val_good o2 h3
              have hs := vals_good (o2.left (val_left h3)) h4
              simp [fineO, leafO, hn, hv]
              simpa using hs
      | none =>
        simp only [h1] at h
        cases h2 : takes sPre u with
        | some r1 =>
          simp only [h2] at h
          have o1 := ou.left (takes_left h2)
          cases h3 : valP r1 with
          | none => simp [h3] at h
          | some x =>
            obtain ⟨v, r2⟩ := x
            simp only [h3] at h
            by_cases hx : v.text = true
            · rw [if_pos hx] at h
              cases h
              have hv := val_good o1 h3
              simp [fineO, leafO, hn, hv, hx]
            · rw [if_neg hx] at h; cases h
        | none =>
          simp only [h2] at h
          match u, ou, h with
          | o :: r1, ou, h =>
            simp only at h
            by_cases hc : o.kind = 5 ∧ opB o.str = true
            · rw [if_pos hc] at h
              cases h3 : valP r1 with
              | none => simp [h3] at h
              | some x =>
                obtain ⟨v, r2⟩ := x
                simp only [h3] at h
                cases h
                have hv := val_good (fun x hx => ou x (List.mem_cons_of_mem _ hx)) h3
                simp [fineO, leafO, hn, hv, hc.2]
            · rw [if_neg hc] at h; cases h
    · rw [if_neg hk] at h; cases h

/-! ### Chains -/
theorem fineOL_app {k : Int} : ∀ l m : List Flt, fineOL k (l ++ m) = (fineOL k l && fineOL k m)
  | [], m => by simp [fineOL]
  | p :: r, m => by simp only [List.cons_append, fineOL, fineOL_app r m, Bool.and_assoc]
theorem add_good {k : Int} (hk : k = 1 ∨ k = 2) {l : List Flt} {x : Flt} (hl : fineOL k l = true) (hx : fineO x = true) :
    ∃ m, add (.mk k [] [] [] l) x = .mk k [] [] [] m ∧ fineOL k m = true ∧ l.length + 1 ≤ m.length := by
  obtain ⟨k2, n2, o2, v2, l2⟩ := x
  by_cases hc : k2 = k
  · subst hc
    unfold fineO at hx
    rw [if_neg (by omega), if_pos hk] at hx
    simp only [Bool.and_eq_true, decide_eq_true_eq] at hx
    refine ⟨l ++ l2, by simp [add, Flt.kind, Flt.parts, Flt.name, Flt.op, Flt.vals], by rw [fineOL_app, hl, hx.2]; rfl, by simp; omega⟩
  · refine ⟨l ++ [.mk k2 n2 o2 v2 l2], add_part (x := .mk k2 n2 o2 v2 l2) (show (Flt.mk k2 n2 o2 v2 l2).kind ≠ k from hc), ?_, by simp⟩
    rw [fineOL_app, hl]
    simp only [fineOL, hx, Bool.true_and, Bool.and_true, Bool.or_eq_true, Bool.not_eq_true', decide_eq_false_iff_not]
    exact Or.inr hc
def Good (sub : List Tc → Option (Flt × List Tc)) : Prop := ∀ ts f r, Okay ts → sub ts = some (f, r) → fineO f = true
theorem tail_good {w : List UInt8} {k : Int} (hk : k = 1 ∨ k = 2) {sub : List Tc → Option (Flt × List Tc)} (hs : Con sub) (hg : Good sub) :
    ∀ {n : Nat} {l : List Flt} {f : Flt} {ts r : List Tc}, Okay ts → fineOL k l = true → tailP w sub n (.mk k [] [] [] l) ts = some (f, r) →
      ∃ m, f = .mk k [] [] [] m ∧ fineOL k m = true ∧ l.length ≤ m.length ∧ (takes w ts ≠ none → l.length + 1 ≤ m.length)
  | 0, _, _, _, _, _, _, h => by cases h
  | n + 1, l, f, ts, r, ho, hl, h => by
    simp only [tailP] at h
    cases h1 : takes w ts with
    | none => simp only [h1] at h; cases h; exact ⟨l, rfl, hl, Nat.le_refl _, fun h => absurd rfl h⟩
    | some r1 =>
      simp only [h1] at h
      have o1 := ho.left (takes_left h1)
      cases h2 : sub r1 with
      | none => simp [h2] at h
      | some x =>
        obtain ⟨y, r2⟩ := x
        simp only [h2] at h
        obtain ⟨m, e, hm, hn⟩ := add_good hk hl (hg _ _ _ o1 h2)
        rw [e] at h
        obtain ⟨q, e2, hq, hq1, _⟩ := tail_good hk hs hg (o1.left (hs _ _ _ h2)) hm h
        exact ⟨q, e2, hq, by omega, fun _ => by omega⟩
theorem chain_good {w : List UInt8} {k : Int} (hk : k = 1 ∨ k = 2) {sub : List Tc → Option (Flt × List Tc)} (hs : Con sub) (hg : Good sub) : Good (chainP w k sub) := fun ts f r ho h => by
  simp only [chainP] at h
  cases h1 : sub ts with
  | none => simp [h1] at h
  | some x =>
    obtain ⟨x, r1⟩ := x
    simp only [h1] at h
    have hx := hg _ _ _ ho h1
    cases h2 : takes w r1 with
    | none => simp only [h2] at h; cases h; exact hx
    | some r2 =>
      simp only [h2] at h
      obtain ⟨m, e, hm, hn⟩ := add_good hk (l := []) rfl hx
      rw [e] at h
      obtain ⟨q, e2, hq, _, hq2⟩ := tail_good hk hs hg (ho.left (hs _ _ _ h1)) hm h
      have h3 := hq2 (by rw [h2]; simp)
      have h4 : 2 ≤ q.length := by simp at hn; omega
      rw [e2]
      unfold fineO
      rw [if_neg (by omega), if_pos hk, hq]
      simp [h4]
theorem not_good : ∀ n : Nat, Good (notP n)
  | 0 => fun ts f r _ h => by cases h
  | n + 1 => fun ts f r ho h => by
    have ih := not_good n
    simp only [notP] at h
    cases h1 : takes wNot ts with
    | some r1 =>
      simp only [h1] at h
      cases h2 : notP n r1 with
      | none => simp [h2] at h
      | some x =>
        obtain ⟨x, r2⟩ := x
        simp only [h2] at h
        cases h
        have hx := ih _ _ _ (ho.left (takes_left h1)) h2
        simp [fineO, fineOL, hx]
    | none =>
      simp only [h1] at h
      cases h2 : takes sOpen ts with
      | some r1 =>
        simp only [h2] at h
        cases h3 : chainP wOr 2 (chainP wAnd 1 (notP n)) r1 with
        | none => simp [h3] at h
        | some x =>
          obtain ⟨x, r2⟩ := x
          simp only [h3] at h
          cases h4 : takes sShut r2 with
          | none => simp [h4] at h
          | some r3 =>
            simp only [h4] at h
            cases h
            exact chain_good (Or.inr rfl) (chain_con (not_con n)) (chain_good (Or.inl rfl) (not_con n) ih) _ _ _ (ho.left (takes_left h2)) h3
      | none =>
        simp only [h2] at h
        cases h3 : takes wTrue ts with
        | some r1 =>
          simp only [h3] at h
          cases h
          simp [fineO, fineOL]
        | none =>
          simp only [h3] at h
          exact leaf_good ho h
theorem or_good (n : Nat) : Good (orP n) := chain_good (Or.inr rfl) (chain_con (not_con n)) (chain_good (Or.inl rfl) (not_con n) (not_good n))
end Go.Proofs.Ytcajcmaldnmbjaa.Fl
/-
  Plain facts on filters: a text's tokens are good, their numbers are int64s, and so are those of what is read. No program here.
-/
namespace Go.Proofs.Ytcajcmaldnmbjaa.Fl
open Go.Proofs.Ytcajcmaldnmbjaa.Tk
set_option linter.unusedVariables false
set_option linter.unusedSimpArgs false

theorem lo0 : (-9223372036854775808 : Int) ≤ 0 := (by decide)
theorem hi0 : (0 : Int) ≤ 9223372036854775807 := (by decide)
theorem lex_good {l : List UInt8} {x : Lx} (h : lex l = some x) :
    (x.kind = 1 → nameB x.str = true) ∧ (x.kind = 4 → plainB x.str = true) ∧ -9223372036854775808 ≤ x.num ∧ x.num ≤ 9223372036854775807 := by
  have ht := lex_take h (Nat.le_refl _)
  have hz := lex_size h
  match l, h with
  | c :: r, h =>
    have h0 := h
    rw [lex_cons] at h
    by_cases h1 : low c = true
    · rw [if_pos h1] at h
      unfold nameL at h
      by_cases h2 : run nmB (c :: r) ≤ 20
      · rw [if_pos h2] at h
        have e := (Option.some.inj h).symm
        subst e
        simp only at ht hz
        have hl : ((c :: r).take (run nmB (c :: r))).length = run nmB (c :: r) := by rw [List.length_take]; omega
        refine ⟨fun hk => ?_, fun hk => ?_, lo0, hi0⟩
        · unfold nameB
          rw [ht]
          simp only at hk
          simp [hk, hl]
        · simp only at hk
          split at hk <;> cases hk
      · rw [if_neg h2] at h; cases h
    · rw [if_neg h1] at h
      by_cases h2 : (dig c || c.toNat == 45) = true
      · rw [if_pos h2, numL_cons] at h
        by_cases h3 : (c.toNat == 45) = true
        · rw [if_pos h3] at h
          by_cases h4 : digs r = [] ∨ (digs r).head? = some 48 ∨ 9223372036854775808 < decV (digs r)
          · rw [if_pos h4] at h; cases h
          · rw [if_neg h4] at h
            have e := (Option.some.inj h).symm
            subst e
            have h5 : ¬ 9223372036854775808 < decV (digs r) := fun hx => h4 (Or.inr (Or.inr hx))
            refine ⟨fun hk => (by simp at hk), fun hk => (by simp at hk), ?_, ?_⟩ <;> simp only <;> omega
        · rw [if_neg h3] at h
          by_cases h4 : digs (c :: r) = [] ∨ (1 < (digs (c :: r)).length ∧ (digs (c :: r)).head? = some 48) ∨ 9223372036854775808 ≤ decV (digs (c :: r))
          · rw [if_pos h4] at h; cases h
          · rw [if_neg h4] at h
            have e := (Option.some.inj h).symm
            subst e
            have h5 : ¬ 9223372036854775808 ≤ decV (digs (c :: r)) := fun hx => h4 (Or.inr (Or.inr hx))
            refine ⟨fun hk => (by simp at hk), fun hk => (by simp at hk), ?_, ?_⟩ <;> simp only <;> omega
      · rw [if_neg h2] at h
        by_cases h3 : (c.toNat == 34) = true
        · rw [if_pos h3] at h
          unfold textL at h
          by_cases h4 : run inB r ≤ 200 ∧ r[run inB r]? = some 34
          · rw [if_pos h4] at h
            have e := (Option.some.inj h).symm
            subst e
            refine ⟨fun hk => (by simp at hk), fun _ => ?_, lo0, hi0⟩
            have ha := take_run_all inB r
            unfold plainB
            rw [Bool.and_eq_true, List.all_eq_true, decide_eq_true_eq]
            refine ⟨fun d hd => by simpa [inB, txB] using ha d hd, ?_⟩
            rw [List.length_take]
            omega
          · rw [if_neg h4] at h; cases h
        · rw [if_neg h3] at h
          unfold signL at h
          by_cases h4 : 2 ≤ (c :: r).length ∧ signB ((c :: r).take 2) = true
          · rw [if_pos h4] at h
            have e := (Option.some.inj h).symm
            subst e
            exact ⟨fun hk => (by simp at hk), fun hk => (by simp at hk), lo0, hi0⟩
          · rw [if_neg h4] at h
            by_cases h5 : signB ((c :: r).take 1) = true
            · rw [if_pos h5] at h
              have e := (Option.some.inj h).symm
              subst e
              exact ⟨fun hk => (by simp at hk), fun hk => (by simp at hk), lo0, hi0⟩
            · rw [if_neg h5] at h; cases h
/-- Its numbers are int64s. -/
def Span (ts : List Tc) : Prop := ∀ t ∈ ts, -9223372036854775808 ≤ t.num ∧ t.num ≤ 9223372036854775807
theorem Span.left {ts r : List Tc} {n : Nat} (h : Span ts) (hl : Left ts r n) : Span r := by
  obtain ⟨⟨j, rfl⟩, _⟩ := hl
  exact fun t ht => h t (List.mem_of_mem_drop ht)
theorem cut_good : ∀ (n a : Nat) (l : List UInt8) (ts : List Tok), l.length ≤ n → cutAt a l = some ts → Okay (ts.map core) ∧ Span (ts.map core)
  | n, a, [], ts, _, h => by
    rw [cutAt_nil] at h
    cases h
    exact ⟨fun t ht => by simp at ht, fun t ht => by simp at ht⟩
  | 0, a, c :: r, ts, hn, _ => by simp at hn
  | n + 1, a, c :: r, ts, hn, h => by
    simp only [List.length_cons] at hn
    by_cases hc : c.toNat = 32
    · rw [cutAt_space hc] at h
      exact cut_good n (a + 1) r ts (by omega) h
    · cases hx : lex (c :: r) with
      | none => rw [cutAt_none hc a r hx] at h; cases h
      | some x =>
        rw [cutAt_some hc a r hx] at h
        obtain ⟨us, hu, rfl⟩ := Option.map_eq_some_iff.1 h
        have hz := lex_size hx
        obtain ⟨g1, g2, g3, g4⟩ := lex_good hx
        obtain ⟨i1, i2⟩ := cut_good n (a + x.size) ((c :: r).drop x.size) us (by rw [List.length_drop, List.length_cons]; omega) hu
        refine ⟨fun t ht => ?_, fun t ht => ?_⟩
        · rw [List.map_cons] at ht
          rcases List.mem_cons.1 ht with rfl | ht
          · exact ⟨g1, g2⟩
          · exact i1 t ht
        · rw [List.map_cons] at ht
          rcases List.mem_cons.1 ht with rfl | ht
          · exact ⟨g3, g4⟩
          · exact i2 t ht

/-! ### What is read has int64s -/
theorem val_span {ts r : List Tc} {v : Att} (ho : Span ts) (h : valP ts = some (v, r)) : rngV v := by
  match ts, ho, h with
  | t :: u, ho, h =>
    have ht := ho t (List.mem_cons_self ..)
    simp only [valP] at h
    by_cases h4 : t.kind = 4
    · rw [if_pos h4] at h; cases h; exact ⟨lo0, hi0⟩
    · rw [if_neg h4] at h
      by_cases h3 : t.kind = 3
      · rw [if_pos h3] at h; cases h; exact ht
      · rw [if_neg h3] at h; cases h
theorem vals_span {tx : Bool} : ∀ {n : Nat} {ts r : List Tc} {vs : List Att}, Span ts → valsP tx n ts = some (vs, r) → ∀ u ∈ vs, rngV u
  | 0, _, _, _, _, h => by cases h
  | n + 1, ts, r, vs, ho, h => by
    simp only [valsP] at h
    cases h1 : takes sComma ts with
    | some r1 =>
      simp only [h1] at h
      have o1 := ho.left (takes_left h1)
      cases h2 : valP r1 with
      | none => simp [h2] at h
      | some x =>
        obtain ⟨v, r2⟩ := x
        simp only [h2] at h
        by_cases ht : v.text = tx
        · rw [if_pos ht] at h
          cases h3 : valsP tx n r2 with
          | none => simp [h3] at h
          | some x =>
            obtain ⟨us, r3⟩ := x
            simp only [h3] at h
            cases h
            have ih := vals_span (o1.left (val_left h2)) h3
            intro u hu
            rcases List.mem_cons.1 hu with rfl | hu
            · exact val_span o1 h2
            · exact ih u hu
        · rw [if_neg ht] at h; cases h
    | none =>
      simp only [h1] at h
      cases h2 : takes sShut ts with
      | none => simp [h2] at h
      | some r1 =>
        simp only [h2] at h
        cases h
        exact fun u hu => by simp at hu
theorem leaf_span {ts r : List Tc} {f : Flt} (ho : Span ts) (h : leafP ts = some (f, r)) : rng f := by
  match ts, ho, h with
  | t :: u, ho, h =>
    have ht := ho t (List.mem_cons_self ..)
    have ou : Span u := fun x hx => ho x (List.mem_cons_of_mem _ hx)
    simp only [leafP] at h
    by_cases hk : t.kind = 1
    · rw [if_pos hk] at h
      cases h1 : takes wIn u with
      | some r1 =>
        simp only [h1] at h
        have o1 := ou.left (takes_left h1)
        cases h2 : takes sOpen r1 with
        | none => simp [h2] at h
        | some r2 =>
          simp only [h2] at h
          have o2 := o1.left (takes_left h2)
          cases h3 : valP r2 with
          | none => simp [h3] at h
          | some x =>
            obtain ⟨v, r3⟩ := x
            simp only [h3] at h
            cases h4 : valsP v.text (r3.length + 1) r3 with
            | none => simp [h4] at h
            | some x =>
              obtain ⟨vs, r4⟩ := x
              simp only [h4] at h
              cases h
              have hv := val_span o2 h3
              have hs := vals_span (o2.left (val_left h3)) h4
              refine ⟨fun u hu => ?_, trivial⟩
              rcases List.mem_cons.1 hu with rfl | hu
              · exact hv
              · exact hs u hu
      | none =>
        simp only [h1] at h
        cases h2 : takes sPre u with
        | some r1 =>
          simp only [h2] at h
          have o1 := ou.left (takes_left h2)
          cases h3 : valP r1 with
          | none => simp [h3] at h
          | some x =>
            obtain ⟨v, r2⟩ := x
            simp only [h3] at h
            by_cases hx : v.text = true
            · rw [if_pos hx] at h
              cases h
              have hv := val_span o1 h3
              exact ⟨fun u hu => by rw [List.mem_singleton.1 hu]; exact hv, trivial⟩
            · rw [if_neg hx] at h; cases h
        | none =>
          simp only [h2] at h
          match u, ou, h with
          | o :: r1, ou, h =>
            simp only at h
            by_cases hc : o.kind = 5 ∧ opB o.str = true
            · rw [if_pos hc] at h
              cases h3 : valP r1 with
              | none => simp [h3] at h
              | some x =>
                obtain ⟨v, r2⟩ := x
                simp only [h3] at h
                cases h
                have hv := val_span (fun x hx => ou x (List.mem_cons_of_mem _ hx)) h3
                exact ⟨fun u hu => by rw [List.mem_singleton.1 hu]; exact hv, trivial⟩
            · rw [if_neg hc] at h; cases h
    · rw [if_neg hk] at h; cases h


theorem rngL_app : ∀ {l m : List Flt}, rngL l → rngL m → rngL (l ++ m)
  | [], m, _, h => h
  | p :: r, m, h, g => ⟨h.1, rngL_app h.2 g⟩
theorem rng_parts : ∀ {f : Flt}, rng f → rngL f.parts
  | .mk _ _ _ _ _, h => h.2
theorem rng_vals : ∀ {f : Flt}, rng f → ∀ v ∈ f.vals, rngV v
  | .mk _ _ _ _ _, h => h.1
theorem add_span {f x : Flt} (hl : rng f) (hx : rng x) : rng (add f x) := by
  unfold add
  split
  · exact ⟨rng_vals hl, rngL_app (rng_parts hl) (rng_parts hx)⟩
  · exact ⟨rng_vals hl, rngL_app (rng_parts hl) ⟨hx, trivial⟩⟩
def Spans (sub : List Tc → Option (Flt × List Tc)) : Prop := ∀ ts f r, Span ts → sub ts = some (f, r) → rng f
theorem tail_span {w : List UInt8} {sub : List Tc → Option (Flt × List Tc)} (hs : Con sub) (hg : Spans sub) :
    ∀ {n : Nat} {acc : Flt} {f : Flt} {ts r : List Tc}, Span ts → rng acc → tailP w sub n acc ts = some (f, r) → rng f
  | 0, _, _, _, _, _, _, h => by cases h
  | n + 1, acc, f, ts, r, ho, hl, h => by
    simp only [tailP] at h
    cases h1 : takes w ts with
    | none => simp only [h1] at h; cases h; exact hl
    | some r1 =>
      simp only [h1] at h
      have o1 := ho.left (takes_left h1)
      cases h2 : sub r1 with
      | none => simp [h2] at h
      | some x =>
        obtain ⟨y, r2⟩ := x
        simp only [h2] at h
        exact tail_span hs hg (o1.left (hs _ _ _ h2)) (add_span hl (hg _ _ _ o1 h2)) h
theorem chain_span {w : List UInt8} {k : Int} {sub : List Tc → Option (Flt × List Tc)} (hs : Con sub) (hg : Spans sub) : Spans (chainP w k sub) := fun ts f r ho h => by
  simp only [chainP] at h
  cases h1 : sub ts with
  | none => simp [h1] at h
  | some x =>
    obtain ⟨x, r1⟩ := x
    simp only [h1] at h
    have hx := hg _ _ _ ho h1
    cases h2 : takes w r1 with
    | none => simp only [h2] at h; cases h; exact hx
    | some r2 =>
      simp only [h2] at h
      exact tail_span hs hg (ho.left (hs _ _ _ h1)) (add_span (f := .mk k [] [] [] []) ⟨fun v hv => by simp at hv, trivial⟩ hx) h
theorem not_span : ∀ n : Nat, Spans (notP n)
  | 0 => fun ts f r _ h => by cases h
  | n + 1 => fun ts f r ho h => by
    have ih := not_span n
    simp only [notP] at h
    cases h1 : takes wNot ts with
    | some r1 =>
      simp only [h1] at h
      cases h2 : notP n r1 with
      | none => simp [h2] at h
      | some x =>
        obtain ⟨x, r2⟩ := x
        simp only [h2] at h
        cases h
        have hx := ih _ _ _ (ho.left (takes_left h1)) h2
        exact ⟨fun v hv => by simp at hv, hx, trivial⟩
    | none =>
      simp only [h1] at h
      cases h2 : takes sOpen ts with
      | some r1 =>
        simp only [h2] at h
        cases h3 : chainP wOr 2 (chainP wAnd 1 (notP n)) r1 with
        | none => simp [h3] at h
        | some x =>
          obtain ⟨x, r2⟩ := x
          simp only [h3] at h
          cases h4 : takes sShut r2 with
          | none => simp [h4] at h
          | some r3 =>
            simp only [h4] at h
            cases h
            exact chain_span (chain_con (not_con n)) (chain_span (not_con n) ih) _ _ _ (ho.left (takes_left h2)) h3
      | none =>
        simp only [h2] at h
        cases h3 : takes wTrue ts with
        | some r1 =>
          simp only [h3] at h
          cases h
          exact ⟨fun v hv => by simp at hv, trivial⟩
        | none =>
          simp only [h3] at h
          exact leaf_span ho h
theorem or_span (n : Nat) : Spans (orP n) := chain_span (chain_con (not_con n)) (chain_span (not_con n) (not_span n))

/-- What is read of a text, if nowhere it has more than twenty values, has a text that is read as it. -/
theorem read_good {l : List UInt8} {ts : List Tok} (h : cutAt 0 l = some ts) {n : Nat} {f : Flt} {r : List Tc} (hr : orP n (ts.map core) = some (f, r)) :
    fineO f = true ∧ rng f := by
  obtain ⟨h1, h2⟩ := cut_good _ 0 l ts (Nat.le_refl _) h
  exact ⟨or_good n _ _ _ h1 hr, or_span n _ _ _ h2 hr⟩
end Go.Proofs.Ytcajcmaldnmbjaa.Fl
/-
  Contracts of the smallest functions of package token and of the document's answer: what sort a byte is of, whether a row is a word or a sign, that which is told where there is no token. Memory that was there is left as it was.
-/
namespace Go.Proofs.Ytcajcmaldnmbjaa.Tk
open Go.RowKit
set_option linter.unusedVariables false
set_option linter.unusedSimpArgs false

theorem byteI (c : UInt8) (a b : Nat) : (decide (a ≤ c.toNat) && decide (c.toNat ≤ b)) = (decide ((a : Int) ≤ (c.toNat : Nat)) && decide (((c.toNat : Nat) : Int) ≤ (b : Int))) := by
  congr 1 <;> exact decide_eq_decide.2 (by omega)
theorem lowI (c : UInt8) : low c = (decide ((97 : Int) ≤ (c.toNat : Nat)) && decide (((c.toNat : Nat) : Int) ≤ 122)) := byteI c 97 122
theorem digI (c : UInt8) : dig c = (decide ((48 : Int) ≤ (c.toNat : Nat)) && decide (((c.toNat : Nat) : Int) ≤ 57)) := byteI c 48 57
theorem txBI (c : UInt8) : txB c = (decide ((32 : Int) ≤ (c.toNat : Nat)) && decide (((c.toNat : Nat) : Int) ≤ 126)) := byteI c 32 126

end Go.Proofs.Ytcajcmaldnmbjaa.Tk
/-
  Contract of row of package token, at each of the three functions that it is handed: how many bytes a text begins with that are all of one sort. Memory is left as it was.
-/
namespace Go.Proofs.Ytcajcmaldnmbjaa.Tk
open Go.RowKit
set_option linter.unusedVariables false
set_option linter.unusedSimpArgs false

def RowR (p : UInt8 → Bool) (l : List UInt8) (w : World) (vi : Value) (wr : World) : Prop :=
  ∃ k : Nat, k ≤ l.length ∧ vi = .int .i64 k ∧ Hid (∀ (j : Nat) (c : UInt8), j < k → l[j]? = some c → p c = true) ∧ w = wr
theorem row_more {p : UInt8 → Bool} {l : List UInt8} {k : Nat} {c : UInt8} (h : ∀ (j : Nat) (c : UInt8), j < k → l[j]? = some c → p c = true) (hc : l[k]? = some c) (hp : p c = true) : ∀ (j : Nat) (c : UInt8), j < k + 1 → l[j]? = some c → p c = true := by
  intro j d hj hd
  by_cases e : j = k
  · subst e
    rw [hc] at hd
    cases hd
    exact hp
  · exact h j d (by omega) hd


end Go.Proofs.Ytcajcmaldnmbjaa.Tk
/-
  A block of four cells that a call has made; a text's pieces as lists of bytes. No program here.
-/
namespace Go.Proofs.Ytcajcmaldnmbjaa.Tk
open Go.RowKit
set_option linter.unusedVariables false

/-- Block b holds these four, and may be written. -/
def Blk (W : World) (b : Nat) (x y z u : Value) : Prop :=
  W.cell? ⟨b, 0, none⟩ = some x ∧ W.cell? ⟨b, 1, none⟩ = some y ∧ W.cell? ⟨b, 2, none⟩ = some z ∧ W.cell? ⟨b, 3, none⟩ = some u ∧ (∀ o, W.frozen? ⟨b, o, none⟩ = false) ∧ b < W.heap.size
theorem Blk.new (w : World) (x y z u : Value) (t : TypeId) : Blk (w.alloc (.cells #[x, y, z, u] t)) w.heap.size x y z u := by
  refine ⟨?_, ?_, ?_, ?_, fun o => ?_, ?_⟩ <;> simp [go_sem]
theorem Blk.later {W V : World} {b : Nat} {x y z u : Value} (h : Blk W b x y z u) (hb : Below W.heap.size W V) : Blk V b x y z u := by
  obtain ⟨h0, h1, h2, h3, hf, hl⟩ := h
  exact ⟨cell_later hb h0, cell_later hb h1, cell_later hb h2, cell_later hb h3, fun o => (World.frozen?_of_block (w := W) (a := ⟨b, o, none⟩) (hb.block b hl)).trans (hf o), Nat.lt_of_lt_of_le hl hb.size⟩
theorem set4 {B b : Nat} {w W : World} (h : Below B w W) (hb : B ≤ b) (x y z u : Value) :
    Below B w ((((W.setCell ⟨b, 0, none⟩ x).setCell ⟨b, 1, none⟩ y).setCell ⟨b, 2, none⟩ z).setCell ⟨b, 3, none⟩ u) :=
  (((h.setCell hb _).setCell hb _).setCell hb _).setCell hb _

theorem take_extract (s : ByteArray) (k : Nat) : s.extract 0 k = ⟨(s.data.toList.take k).toArray⟩ := by
  rw [Lib.extract_eq]
  simp
theorem piece (s : ByteArray) (a b : Nat) : s.extract a b = ⟨((s.data.toList.drop a).take (b - a)).toArray⟩ := Lib.extract_eq s a b
theorem bytes_toList (l : List UInt8) : (⟨l.toArray⟩ : ByteArray).data.toList = l := rfl
theorem take_data (s : ByteArray) (k : Nat) : (s.extract 0 k).data.toList = s.data.toList.take k := by
  rw [Lib.extract_data]
  simp
theorem bytes_size (l : List UInt8) : (⟨l.toArray⟩ : ByteArray).size = l.length := by
  show (l.toArray).size = _
  simp
/-- What is told of the token that a list begins with. -/
def lexV (t : TypeId) : Option Lx → Value
  | none => .tuple #[.agg #[.int .i64 0, .int .i64 0, .int .i64 0, .string ⟨#[]⟩], .int .i64 0, .iface t (.int .i64 2)]
  | some x => .tuple #[.agg #[.int .i64 x.kind, .int .i64 0, .int .i64 x.num, .string ⟨x.str.toArray⟩], .int .i64 (x.size : Nat), .nilIface]
end Go.Proofs.Ytcajcmaldnmbjaa.Tk
/-
  Contract of name of package token: the name, or the word, that a text begins with. Memory that was there is left as it was.
-/
namespace Go.Proofs.Ytcajcmaldnmbjaa.Tk
open Go.RowKit
set_option linter.unusedVariables false
set_option linter.unusedSimpArgs false

end Go.Proofs.Ytcajcmaldnmbjaa.Tk
/-
  The library's functions that the code calls, each by what it answers (strings_IndexByte, stringslite_Clone, strings_HasPrefix, strconv_ParseInt_10_at64_ok, strconv_ParseInt_10_at64_syntax_var, strconv_ParseInt_10_at64_range_var): laid at this program by the shelf, without conditions of our own.
-/
namespace Go.Proofs
open Go.Shelf
def Try.lays99_ren : Go.Shelf.Ren := ⟨fun | 99 => 29 | 206 => 33 | n => n, fun | 9 => 9 | 4 => 4 | 3 => 3 | n => n, fun | n => n⟩
theorem Try.lays99 : Go.Proofs.Lays.n99 Try.prog Try.lays99_ren := {
  mixed := by kernel_rfl
  f99 := Try.func29.trans (congrArg some (by kernel_rfl))
  f206 := Try.func33.trans (congrArg some (by kernel_rfl))
  t3 := Try.underlying3
  a3 := Try.isAgg3
  z3 := Try.sizeOf3
  v3 := Try.zeroValue3
  t4 := Try.underlying4
  a4 := Try.isAgg4
  z4 := Try.sizeOf4
  v4 := Try.zeroValue4
  t9 := Try.underlying9
  a9 := Try.isAgg9
  z9 := Try.sizeOf9
  v9 := Try.zeroValue9 }
open Go.RowKit Go.Lib in
theorem Try.strings_HasPrefix (s p : ByteArray) (w : World) :
    Calls Try.prog 29 #[.string s, .string p] w fun e w' => e = .returned (.bool (Lib.hasPrefix s.data.toList p.data.toList)) ∧ w' = w := Any.strings_HasPrefix Try.lays99 s p w
end Go.Proofs
/-
  Contract of text of package token: the text that a list of bytes begins with, by a ". Memory that was there is left as it was.
-/
namespace Go.Proofs.Ytcajcmaldnmbjaa.Tk
open Go.RowKit
set_option linter.unusedVariables false
set_option linter.unusedSimpArgs false

theorem index_is : ∀ (r : List UInt8), (Lib.indexByte r 34 = -1 ∧ ∀ (j : Nat) (c : UInt8), r[j]? = some c → c ≠ 34) ∨
    ∃ k : Nat, Lib.indexByte r 34 = (k : Int) ∧ r[k]? = some 34 ∧ ∀ (j : Nat) (c : UInt8), j < k → r[j]? = some c → c ≠ 34
  | [] => Or.inl ⟨rfl, fun j c h => by simp at h⟩
  | d :: r => by
    by_cases hd : d = 34
    · subst hd
      exact Or.inr ⟨0, rfl, rfl, fun j c h => absurd h (Nat.not_lt_zero _)⟩
    · have hb : (d == 34) = false := by simpa using hd
      rcases index_is r with ⟨e, h⟩ | ⟨k, e, hk, h⟩
      · refine Or.inl ⟨by rw [Lib.indexByte, hb, e]; rfl, fun j c hc => ?_⟩
        match j, hc with
        | 0, hc => simp at hc; subst hc; exact hd
        | j + 1, hc => exact h j c (by simpa using hc)
      · refine Or.inr ⟨k + 1, ?_, by simpa using hk, fun j c hj hc => ?_⟩
        · rw [Lib.indexByte, hb, e]
          have : ((k : Int) == -1) = false := by simp
          simp [this]
        · match j, hc with
          | 0, hc => simp at hc; subst hc; exact hd
          | j + 1, hc => exact h j c (by omega) (by simpa using hc)
theorem inB34 : inB 34 = false := by decide
theorem text_yes {r : List UInt8} {k : Nat} (hk : r[k]? = some 34) (hno : ∀ (j : Nat) (c : UInt8), j < k → r[j]? = some c → c ≠ 34) (h200 : k ≤ 200) (hrow : k ≤ run txB (r.take k)) :
    textL r = some ⟨4, 0, r.take k, k + 2⟩ := by
  have hkl := (List.getElem?_eq_some_iff.1 hk).1
  have hm : run inB r = k := by
    refine run_eq inB r k (by omega) (fun j c hj hc => ?_) (fun c hc => ?_)
    · rw [run_take] at hrow
      have h1 := run_all txB r j c (by omega) hc
      have h2 := hno j c hj hc
      have h3 : ¬ c.toNat = 34 := fun e => h2 (UInt8.toNat_inj.1 e)
      simp [inB, h1, h3]
    · rw [hk] at hc
      cases hc
      exact inB34
  unfold textL
  rw [hm, if_pos ⟨h200, hk⟩]
theorem text_at {r : List UInt8} {k : Nat} (hk : r[k]? = some 34) (hno : ∀ (j : Nat) (c : UInt8), j < k → r[j]? = some c → c ≠ 34) (he : r[run inB r]? = some 34) : run inB r = k := by
  rcases Nat.lt_trichotomy (run inB r) k with h | h | h
  · exact absurd rfl (hno _ _ h he)
  · exact h
  · have := run_all inB r k 34 h hk
    rw [inB34] at this
    cases this
theorem text_far {r : List UInt8} {k : Nat} (hk : r[k]? = some 34) (hno : ∀ (j : Nat) (c : UInt8), j < k → r[j]? = some c → c ≠ 34) (h200 : 200 < k) : textL r = none := by
  unfold textL
  rw [if_neg]
  rintro ⟨h1, h2⟩
  have := text_at hk hno h2
  omega
theorem text_row {r : List UInt8} {k : Nat} (hk : r[k]? = some 34) (hno : ∀ (j : Nat) (c : UInt8), j < k → r[j]? = some c → c ≠ 34) (hrow : run txB (r.take k) < k) : textL r = none := by
  have hkl := (List.getElem?_eq_some_iff.1 hk).1
  unfold textL
  rw [if_neg]
  rintro ⟨h1, h2⟩
  have hm := text_at hk hno h2
  rw [run_take] at hrow
  have hlt : run txB r < r.length := by omega
  have a1 := run_end txB r r[run txB r] (by simp [hlt])
  have a2 := run_all inB r (run txB r) r[run txB r] (by omega) (by simp [hlt])
  simp [inB, a1] at a2
theorem text_none {r : List UInt8} (hno : ∀ (j : Nat) (c : UInt8), r[j]? = some c → c ≠ 34) : textL r = none := by
  unfold textL
  rw [if_neg]
  rintro ⟨h1, h2⟩
  exact absurd rfl (hno _ _ h2)

end Go.Proofs.Ytcajcmaldnmbjaa.Tk
/-
  Contract of sign of package token: the sign that a text begins with, of two bytes, if there is one. Memory that was there is left as it was.
-/
namespace Go.Proofs.Ytcajcmaldnmbjaa.Tk
open Go.RowKit
set_option linter.unusedVariables false
set_option linter.unusedSimpArgs false

theorem sign_yes {l : List UInt8} {z : Nat} (h1 : 1 ≤ z) (h2 : z ≤ 2) (hl : z ≤ l.length) (hno : ∀ y, z < y → y ≤ 2 → y ≤ l.length → signB (l.take y) = false) (hb : signB (l.take z) = true) :
    signL l = some ⟨5, 0, l.take z, z⟩ := by
  unfold signL
  by_cases e : z = 2
  · subst e
    rw [if_pos ⟨hl, hb⟩]
  · have e1 : z = 1 := by omega
    subst e1
    rw [if_neg, if_pos hb]
    rintro ⟨a, b⟩
    rw [hno 2 (by omega) (by omega) a] at b
    cases b
theorem sign_none {l : List UInt8} (h0 : 1 ≤ l.length) (hno : ∀ y, 0 < y → y ≤ 2 → y ≤ l.length → signB (l.take y) = false) : signL l = none := by
  unfold signL
  rw [if_neg, if_neg]
  · rw [hno 1 (by omega) (by omega) h0]; simp
  · rintro ⟨a, b⟩
    rw [hno 2 (by omega) (by omega) a] at b
    cases b
def SignR (l : List UInt8) (w : World) (vi : Value) (wr : World) : Prop :=
  ∃ z : Nat, z ≤ 2 ∧ z ≤ l.length ∧ vi = .int .i64 z ∧ Hid (∀ y, z < y → y ≤ 2 → y ≤ l.length → signB (l.take y) = false) ∧ w = wr
theorem run_min2 (P : Program) (ts : Array TypeId) (t : TypeId) (n m : Nat) (hm : m ≤ 2) (h : m = 2 ∧ 2 ≤ n ∨ m = n ∧ n < 2) (W : World) : (Builtin.min_ ts t #[.int .i64 2, .int .i64 (n : Int)]).run P W = .ok (.int .i64 (m : Int)) W := by
  rw [run_min_int2 W ts t .i64 .i64 2 (n : Int)]
  rcases h with ⟨rfl, h⟩ | ⟨rfl, h⟩
  · rw [if_neg (by omega)]; rfl
  · rw [if_pos (by omega)]

end Go.Proofs.Ytcajcmaldnmbjaa.Tk
/-
  Contract of number of package token: the number that a text begins with, by a digit or a -. Memory that was there is left as it was; the package variables ErrSyntax and ErrRange of strconv hold interface values.
-/
namespace Go.Proofs.Ytcajcmaldnmbjaa.Tk
open Go.RowKit
set_option linter.unusedVariables false
set_option linter.unusedSimpArgs false

theorem digs_all (l : List UInt8) : ∀ c ∈ digs l, dig c = true := take_run_all dig l
theorem pre48 (l : List UInt8) : Lib.hasPrefix l [48] = decide (l.head? = some 48) := by
  cases l with
  | nil => rfl
  | cons c r =>
    rw [Bool.eq_iff_iff, decide_eq_true_iff]
    show ((48 == c) && true) = true ↔ some c = some 48
    rw [Bool.and_true, beq_iff_eq, Option.some_inj]
    exact eq_comm
theorem numL_minus {c : UInt8} {r : List UInt8} (hc : c.toNat = 45) : numL (c :: r) = if digs r = [] ∨ (digs r).head? = some 48 ∨ 9223372036854775808 < decV (digs r) then none else some ⟨3, -(decV (digs r) : Int), [], (digs r).length + 1⟩ := by
  rw [numL_cons, if_pos (by rw [hc]; rfl)]
theorem numL_plain {c : UInt8} {r : List UInt8} (hc : ¬ c.toNat = 45) : numL (c :: r) = if digs (c :: r) = [] ∨ (1 < (digs (c :: r)).length ∧ (digs (c :: r)).head? = some 48) ∨ 9223372036854775808 ≤ decV (digs (c :: r)) then none else some ⟨3, decV (digs (c :: r)), [], (digs (c :: r)).length⟩ := by
  rw [numL_cons, if_neg (fun h => hc (eq_of_beq h))]
theorem num_minus0 {c : UInt8} {r : List UInt8} (hc : c.toNat = 45) (h : (digs r).head? = some 48) : numL (c :: r) = none := by
  rw [numL_minus hc, if_pos (Or.inr (Or.inl h))]
theorem num_minus {c : UInt8} {r : List UInt8} (hc : c.toNat = 45) (h : ¬ (digs r).head? = some 48) :
    (∀ v, Lib.parseIntB 64 ((45 : UInt8) :: digs r) = .ok v → numL (c :: r) = some ⟨3, v, [], (digs r).length + 1⟩) ∧ ((∀ u, Lib.parseIntB 64 ((45 : UInt8) :: digs r) ≠ .ok u) → numL (c :: r) = none) := by
  rw [numL_minus hc, parse_minus (digs_all r)]
  by_cases h0 : digs r = []
  · rw [if_pos h0, if_pos (Or.inl h0)]
    exact ⟨fun v e => (by cases e), fun _ => rfl⟩
  · rw [if_neg h0]
    by_cases h1 : 9223372036854775808 < decV (digs r)
    · rw [if_pos h1, if_pos (Or.inr (Or.inr h1))]
      exact ⟨fun v e => (by cases e), fun _ => rfl⟩
    · rw [if_neg h1, if_neg (by rintro (a | a | a) <;> contradiction)]
      exact ⟨fun v e => (by cases e; rfl), fun e => absurd rfl (e _)⟩
theorem num_plain0 {c : UInt8} {r : List UInt8} (hc : ¬ c.toNat = 45) (h : (digs (c :: r)).head? = some 48) (h1 : 1 < (digs (c :: r)).length) : numL (c :: r) = none := by
  rw [numL_plain hc, if_pos (Or.inr (Or.inl ⟨h1, h⟩))]
theorem num_plain {c : UInt8} {r : List UInt8} (hc : ¬ c.toNat = 45) (h : ¬ ((digs (c :: r)).head? = some 48 ∧ 1 < (digs (c :: r)).length)) :
    (∀ v, Lib.parseIntB 64 (digs (c :: r)) = .ok v → numL (c :: r) = some ⟨3, v, [], (digs (c :: r)).length⟩) ∧ ((∀ u, Lib.parseIntB 64 (digs (c :: r)) ≠ .ok u) → numL (c :: r) = none) := by
  rw [numL_plain hc]
  by_cases h0 : digs (c :: r) = []
  · rw [if_pos (Or.inl h0), h0]
    exact ⟨fun v e => (by cases e), fun _ => rfl⟩
  · rw [parse_plain (digs_all _) h0]
    by_cases h1 : 9223372036854775808 ≤ decV (digs (c :: r))
    · rw [if_pos h1, if_pos (Or.inr (Or.inr h1))]
      exact ⟨fun v e => (by cases e), fun _ => rfl⟩
    · rw [if_neg h1, if_neg]
      · exact ⟨fun v e => (by cases e; rfl), fun e => absurd rfl (e _)⟩
      · rintro (a | a | a)
        · exact h0 a
        · exact h ⟨a.2, a.1⟩
        · exact h1 a

end Go.Proofs.Ytcajcmaldnmbjaa.Tk
/-
  Contract of first of package token: the token that a text begins with. Memory that was there is left as it was.
-/
namespace Go.Proofs.Ytcajcmaldnmbjaa.Tk
open Go.RowKit
set_option linter.unusedVariables false
set_option linter.unusedSimpArgs false

end Go.Proofs.Ytcajcmaldnmbjaa.Tk
/-
  Tokens as a call keeps them: four cells a token, in a row of the call's own. No program here.
-/
namespace Go.Proofs.Ytcajcmaldnmbjaa.Tk
open Go.RowKit
set_option linter.unusedVariables false

def cellT (t : Tok) : List Value := [.int .i64 t.kind, .int .i64 (t.pos : Nat), .int .i64 t.num, .string ⟨t.str.toArray⟩]
def cellsT (ts : List Tok) : List Value := ts.flatMap cellT
theorem cellsT_app (ts : List Tok) (t : Tok) : cellsT (ts ++ [t]) = cellsT ts ++ cellT t := by unfold cellsT; simp
theorem cellsT_get : ∀ (ts : List Tok) (k : Nat) (h : k < ts.length) (j : Nat), j < 4 → (cellsT ts)[k * 4 + j]? = (cellT ts[k])[j]?
  | [], _, h, _, _ => by simp at h
  | t :: ts, 0, _, j, hj => by
    have e : cellsT (t :: ts) = cellT t ++ cellsT ts := rfl
    rw [e, Nat.zero_mul, Nat.zero_add, List.getElem?_append_left (by simpa [cellT] using hj)]
    rfl
  | t :: ts, k + 1, h, j, hj => by
    have := cellsT_get ts k (by simpa using h) j hj
    have e : cellsT (t :: ts) = cellT t ++ cellsT ts := rfl
    rw [e, List.getElem?_append_right (by simp [cellT]; omega), show (k + 1) * 4 + j - (cellT t).length = k * 4 + j by simp [cellT]; omega, this]
    rfl
theorem own4_lt {W : World} {base n : Nat} {t : TypeId} {v : Value} {xs : List Value} (h : W.ownsRow base t 4 v n xs) {g : Nat} (hg : v.ownBlock = some g) : g < W.heap.size ∧ base ≤ g := by
  rcases h.2 with ⟨rfl, _⟩ | ⟨g', cap, cur, rfl, hb, hh, _⟩
  · simp [Value.ownBlock] at hg
  · simp [Value.ownBlock] at hg
    subst hg
    exact ⟨(Array.getElem?_eq_some_iff.1 hh).1, hb⟩
theorem own4_later {W w1 : World} {base n : Nat} {t : TypeId} {v : Value} {xs : List Value} (h : W.ownsRow base t 4 v n xs) (hb : Below W.heap.size W w1) : w1.ownsRow base t 4 v n xs :=
  h.kept (row := none) ⟨hb.os, hb.tape, hb.output, hb.size, fun k hk _ => hb.block k hk⟩ (by cases v.ownBlock <;> simp)
theorem own4_below {W w1 v : World} {n : Nat} {t : TypeId} {u : Value} {xs : List Value} (hB : Below v.heap.size v W) (h : W.ownsRow v.heap.size t 4 u n xs) (hg : W.grownBy w1 u.ownBlock) : Below v.heap.size v w1 :=
  hB.grown hg hB.size fun k hk => (own4_lt h hk).2
theorem own4_wide {W : World} {base base' n : Nat} {t : TypeId} {v : Value} {xs : List Value} (h : W.ownsRow base t 4 v n xs) (hb : base' ≤ base) : W.ownsRow base' t 4 v n xs := by
  rcases h with ⟨h1, h2 | ⟨g, cap, cur, e, h3, h4⟩⟩
  · exact ⟨h1, Or.inl h2⟩
  · exact ⟨h1, Or.inr ⟨g, cap, cur, e, by omega, h4⟩⟩
theorem news4 (W : World) (x y z u : Value) (t : TypeId) : ∀ j v, ([x, y, z, u] : List Value)[j]? = some v → (W.alloc (.cells #[x, y, z, u] t)).cell? ((⟨W.heap.size, 0, none⟩ : Addr).add j) = some v := by
  intro j v hj
  match j, hj with
  | 0, hj => simp at hj; subst hj; simp [Addr.add, go_sem]
  | 1, hj => simp at hj; subst hj; simp [Addr.add, go_sem]
  | 2, hj => simp at hj; subst hj; simp [Addr.add, go_sem]
  | 3, hj => simp at hj; subst hj; simp [Addr.add, go_sem]
  | j + 4, hj => simp at hj
theorem one4 (a b c : Int) (s : ByteArray) : ∀ u ∈ ([.int .i64 a, .int .i64 b, .int .i64 c, .string s] : List Value), u.oneCell' = true := by
  intro u hu
  simp at hu
  rcases hu with rfl | rfl | rfl | rfl <;> rfl
theorem info_cut {P : Program} {t : TypeId} {z : Value} {s b : Nat} (h : (P.info? t).map (fun i => (i.zero, i.size, i.bytes)) = some (some z, s, b)) : ∃ i, P.info? t = some i ∧ i.zero = some z ∧ i.size = s ∧ i.bytes = b := by
  cases e : P.info? t with
  | none => rw [e] at h; simp at h
  | some i => rw [e] at h; simp at h; exact ⟨i, rfl, h.1, h.2.1, h.2.2⟩
def nOf : Value → Nat | .int _ n => n.toNat | _ => 0

theorem str_bound {s : ByteArray} {a n : Nat} {l : List UInt8} (hq : (s.extract a s.size).data.toList = l) (h5 : s.size ≤ 500) (h : n ≤ l.length) : n ≤ 1048576 := by
  have h9 : l.length = (s.extract a s.size).size := by rw [Lib.size_eq, hq]
  simp only [ByteArray.size_extract] at h9
  omega
/-- Between the rounds of a cut's loop: so far ts has been cut. -/
def CutR (w : World) (t : TypeId) (L : List UInt8) (va vl : Value) (wr : World) : Prop :=
  ∃ (a : Nat) (ts : List Tok), va = .int .i64 a ∧ a ≤ L.length ∧ Hid (cutAt 0 L = (cutAt a (L.drop a)).map (ts ++ ·)) ∧ ts.length ≤ a ∧ wr.ownsRow w.heap.size t 4 vl ts.length (cellsT ts) ∧ Below w.heap.size w wr
/-- What is told of a cut. -/
def CutEnd (w w' : World) (t : TypeId) (bad good : Value) (e : Ending) : Option (List Tok) → Prop
  | none => e = .returned (.tuple #[.slice none 0 0, bad])
  | some ts => ∃ u, e = .returned (.tuple #[u, good]) ∧ w'.ownsRow w.heap.size t 4 u ts.length (cellsT ts)
theorem cut_step {L : List UInt8} {a : Nat} {ts : List Tok} {c : UInt8} {r : List UInt8} {x : Lx} (h : cutAt 0 L = (cutAt a (L.drop a)).map (ts ++ ·)) (hL : L.drop a = c :: r) (hc : ¬ c.toNat = 32) (hx : lex (c :: r) = some x) :
    a + x.size ≤ L.length ∧ 1 ≤ x.size ∧ cutAt 0 L = (cutAt (a + x.size) (L.drop (a + x.size))).map ((ts ++ [⟨x.kind, a, x.num, x.str⟩]) ++ ·) := by
  have hz := lex_size hx
  have hl : (L.drop a).length = (c :: r).length := by rw [hL]
  rw [List.length_drop] at hl
  refine ⟨by omega, hz.1, ?_⟩
  rw [h, hL, cutAt_some hc a r hx, Option.map_map, ← hL, List.drop_drop]
  congr 1
  funext us
  simp
theorem cut_space {L : List UInt8} {a : Nat} {ts : List Tok} {c : UInt8} {r : List UInt8} (h : cutAt 0 L = (cutAt a (L.drop a)).map (ts ++ ·)) (hL : L.drop a = c :: r) (hc : c.toNat = 32) :
    cutAt 0 L = (cutAt (a + 1) (L.drop (a + 1))).map (ts ++ ·) := by
  have hr : L.drop (a + 1) = r := by rw [← List.drop_drop, hL]; rfl
  rw [h, hL, cutAt_space hc, hr]
theorem cut_bad {L : List UInt8} {a : Nat} {ts : List Tok} {c : UInt8} {r : List UInt8} (h : cutAt 0 L = (cutAt a (L.drop a)).map (ts ++ ·)) (hL : L.drop a = c :: r) (hc : ¬ c.toNat = 32) (hx : lex (c :: r) = none) : cutAt 0 L = none := by
  rw [h, hL, cutAt_none hc a r hx]
  rfl
theorem cut_all {L : List UInt8} {a : Nat} {ts : List Tok} (h : cutAt 0 L = (cutAt a (L.drop a)).map (ts ++ ·)) (ha : a = L.length) : cutAt 0 L = some ts := by
  rw [h, ha, List.drop_length, cutAt_nil]
  simp
end Go.Proofs.Ytcajcmaldnmbjaa.Tk
/-
  Contract of token.Cut: all tokens of a text, in a slice of the call's own, or why it has none. Memory that was there is left as it was.
-/
namespace Go.Proofs.Ytcajcmaldnmbjaa.Tk
open Go.RowKit
set_option linter.unusedVariables false
set_option linter.unusedSimpArgs false

end Go.Proofs.Ytcajcmaldnmbjaa.Tk
/-
  A slice that holds tokens, to be read. No program here.
-/
namespace Go.Proofs.Ytcajcmaldnmbjaa.Tk
open Go.RowKit
set_option linter.unusedVariables false

theorem cut_few : ∀ (n a : Nat) (l : List UInt8) (ts : List Tok), l.length ≤ n → cutAt a l = some ts → ts.length ≤ l.length
  | n, a, [], ts, _, h => by
    rw [cutAt_nil] at h
    cases h
    simp
  | 0, a, c :: r, ts, hn, _ => by simp at hn
  | n + 1, a, c :: r, ts, hn, h => by
    simp only [List.length_cons] at hn
    by_cases hc : c.toNat = 32
    · rw [cutAt_space hc] at h
      have := cut_few n (a + 1) r ts (by omega) h
      simp only [List.length_cons]
      omega
    · cases hx : lex (c :: r) with
      | none => rw [cutAt_none hc a r hx] at h; cases h
      | some x =>
        have hz := lex_size hx
        rw [cutAt_some hc a r hx] at h
        obtain ⟨us, hu, rfl⟩ := Option.map_eq_some_iff.1 h
        have hl : ((c :: r).drop x.size).length = (c :: r).length - x.size := by simp
        have := cut_few n (a + x.size) _ us (by rw [hl]; simp only [List.length_cons]; omega) hu
        simp only [List.length_cons] at hl ⊢ this
        omega
/-- v is a slice that holds ts; its block was there below z. -/
def TksAt (W : World) (z : Nat) (a : Option Addr) (ts : List Tok) : Prop :=
  z ≤ W.heap.size ∧ (0 < ts.length → ∃ g, a = some ⟨g, 0, none⟩ ∧ g < z ∧ ∀ (k : Nat) (h : k < ts.length), W.cell? ⟨g, k * 4, none⟩ = some (.int .i64 ts[k].kind) ∧ W.cell? ⟨g, k * 4 + 1, none⟩ = some (.int .i64 (ts[k].pos : Nat)) ∧
    W.cell? ⟨g, k * 4 + 2, none⟩ = some (.int .i64 ts[k].num) ∧ W.cell? ⟨g, k * 4 + 3, none⟩ = some (.string ⟨ts[k].str.toArray⟩))
theorem TksAt.later {W V : World} {z : Nat} {a : Option Addr} {ts : List Tok} (h : TksAt W z a ts) (hB : Below z W V) : TksAt V z a ts := by
  refine ⟨Nat.le_trans h.1 hB.size, fun h0 => ?_⟩
  obtain ⟨g, e, hg, hc⟩ := h.2 h0
  refine ⟨g, e, hg, fun k hk => ?_⟩
  obtain ⟨c0, c1, c2, c3⟩ := hc k hk
  exact ⟨(hB.cell (p := ⟨g, _, none⟩) hg).trans c0, (hB.cell (p := ⟨g, _, none⟩) hg).trans c1, (hB.cell (p := ⟨g, _, none⟩) hg).trans c2, (hB.cell (p := ⟨g, _, none⟩) hg).trans c3⟩
theorem TksAt.wide {W : World} {z z' : Nat} {a : Option Addr} {ts : List Tok} (h : TksAt W z a ts) (h1 : z ≤ z') (h2 : z' ≤ W.heap.size) : TksAt W z' a ts := by
  refine ⟨h2, fun h0 => ?_⟩
  obtain ⟨g, e, hg, hc⟩ := h.2 h0
  exact ⟨g, e, by omega, hc⟩
theorem s_same {p q r t b : Prop} (h : p ∧ q ∧ r ∧ t ∧ b) : b := h.2.2.2.2
theorem own_tks {W : World} {base : Nat} {t : TypeId} {v : Value} {ts : List Tok} (h : W.ownsRow base t 4 v ts.length (cellsT ts)) : ∃ a cap, v = .slice a ts.length cap ∧ TksAt W W.heap.size a ts := by
  have h2 := h
  rcases h.2 with ⟨rfl, e⟩ | ⟨g, cap, cur, rfl, _, hh, _⟩
  · refine ⟨none, 0, by rw [e], Nat.le_refl _, fun h0 => by omega⟩
  · refine ⟨_, cap, rfl, Nat.le_refl _, fun _ => ⟨g, rfl, (Array.getElem?_eq_some_iff.1 hh).1, fun k hk => ?_⟩⟩
    have d := fun (j : Nat) (hj : j < 4) => (h2.cellAt (k * 4 + j) (by omega)).trans (cellsT_get ts k hk j hj)
    exact ⟨by have q := d 0 (by omega); revert q; simp [cellT], by have q := d 1 (by omega); revert q; simp [cellT], by have q := d 2 (by omega); revert q; simp [cellT], by have q := d 3 (by omega); revert q; simp [cellT]⟩
end Go.Proofs.Ytcajcmaldnmbjaa.Tk
/-
  A text from a place on, byte by byte; what is told of the token at a place. No program here.
-/
namespace Go.Proofs.Ytcajcmaldnmbjaa.Tk
open Go.RowKit
set_option linter.unusedVariables false

theorem at_len {s : ByteArray} {a : Nat} {c : UInt8} {r : List UInt8} (hL : s.data.toList.drop a = c :: r) : a + (r.length + 1) = s.size := by
  have : (s.data.toList.drop a).length = (c :: r).length := by rw [hL]
  rw [List.length_drop, ← Lib.size_eq] at this
  simp only [List.length_cons] at this
  omega
theorem byte_at {s : ByteArray} {f p k : Nat} {D : List UInt8} (hD : s.data.toList.drop f = D) (hp : p = f + k) (h : p < s.size) : D[k]? = some s[p] := by
  rw [← hD, List.getElem?_drop, ← hp]
  exact Lib.data_getElem? s p h
theorem at_byte {s : ByteArray} {a : Nat} {c : UInt8} {r : List UInt8} (hL : s.data.toList.drop a = c :: r) (h : a < s.size) : s[a] = c := by
  have := byte_at hL (show a = a + 0 from rfl) h
  simpa using this.symm
theorem piece_at {s : ByteArray} {f p k : Nat} {D : List UInt8} (hD : s.data.toList.drop f = D) (hp : p = f + k) : s.extract f p = ⟨(D.take k).toArray⟩ := by
  rw [piece, hD, hp]
  congr 3
  omega
theorem piece_list {s : ByteArray} {f p k : Nat} {D : List UInt8} (hD : s.data.toList.drop f = D) (hp : p = f + k) : (s.extract f p).toList = D.take k := by
  rw [piece_at hD hp, Lib.toList_data]
theorem grown {p : UInt8 → Bool} {l : List UInt8} {k : Nat} {c : UInt8} (h : ∀ (j : Nat) (c : UInt8), j < k → l[j]? = some c → p c = true) (hc : l[k]? = some c) (hp : p c = true) : ∀ (j : Nat) (c : UInt8), j < k + 1 → l[j]? = some c → p c = true := by
  intro j d hj hd
  by_cases e : j = k
  · subst e
    rw [hc] at hd
    cases hd
    exact hp
  · exact h j d (by omega) hd
def natOf : Value → Nat | .int _ n => n.toNat | _ => 0
/-- Between the rounds: so far k bytes of D, which begins at f, are all of one sort. -/
def OneR (P : UInt8 → Bool) (D : List UInt8) (f : Nat) (v : World) (va : Value) (wr : World) : Prop :=
  ∃ p k : Nat, va = .int .i64 (p : Nat) ∧ Hid (p = f + k ∧ k ≤ D.length) ∧ Hid (∀ (j : Nat) (c : UInt8), j < k → D[j]? = some c → P c = true) ∧ v = wr
/-- What is told of the token at a. -/
def OneEnd (a : Nat) (e : Ending) : Option Lx → Prop
  | none => ∃ (k p n : Int) (str : ByteArray) (z : Int), e = .returned (.tuple #[.agg #[.int .i64 k, .int .i64 p, .int .i64 n, .string str], .int .i64 z, .bool false])
  | some x => e = .returned (.tuple #[.agg #[.int .i64 x.kind, .int .i64 (a : Nat), .int .i64 x.num, .string ⟨x.str.toArray⟩], .int .i64 ((a + x.size : Nat) : Int), .bool true])
/-- What is told of a number at a. -/
def NumEnd (a : Nat) (e : Ending) : Option Lx → Prop
  | none => ∃ n z : Int, e = .returned (.tuple #[.int .i64 n, .int .i64 z, .bool false])
  | some x => e = .returned (.tuple #[.int .i64 x.num, .int .i64 ((a + x.size : Nat) : Int), .bool true])
theorem wrap_small (n : Nat) (h : n ≤ 1000000) : wrap64 (n : Int) = (n : Int) := by unfold wrap64; omega
theorem wrap_succ (n : Nat) (h : n ≤ 1000000) : wrap64 ((n : Int) + 1) = ((n + 1 : Nat) : Int) := by unfold wrap64; omega
theorem wrap_sub {p f k : Nat} (h : p = f + k) (hk : k ≤ 1000000) : wrap64 ((p : Int) - (f : Int)) = (k : Int) := by unfold wrap64; omega
theorem sub_is {p f k : Nat} (h : p = f + k) : (p : Int) - (f : Int) = (k : Int) := by omega
theorem beq_no {p f : Nat} (h : p ≠ f) : ((p : Int) == (f : Int)) = false := by rw [beq_eq_false_iff_ne]; omega
theorem beq_yes {p f : Nat} (h : p = f) : ((p : Int) == (f : Int)) = true := by rw [h]; simp
theorem i64_small (n : Nat) (h : n ≤ 1000000) : IntKind.i64.wrap (n : Int) = (n : Int) := IntWalk.i64_in _ (by omega)
theorem i64_succ (n : Nat) (h : n ≤ 1000000) : IntKind.i64.wrap ((n : Int) + 1) = (n : Int) + 1 := IntWalk.i64_in _ (by omega)
theorem num_x2 {d : UInt8} {d1 : Int} (h : 48 ≤ d.toNat ∧ d.toNat ≤ 57) (e : d1 = ((d.toNat : Nat) : Int) - 48) : IntKind.u8.wrap (((d.toNat : Nat) : Int) - 48) = d1 := by rw [IntKind.wrap_u8]; omega
theorem num_x3 {d : UInt8} {d1 : Int} (h : 48 ≤ d.toNat ∧ d.toNat ≤ 57) (e : d1 = ((d.toNat : Nat) : Int) - 48) : IntKind.u64.wrap d1 = d1 := by rw [IntKind.wrap_u64]; omega
theorem num_x4 {d : UInt8} {d1 p1 : Int} {q1 nn : Nat} (h : 48 ≤ d.toNat ∧ d.toNat ≤ 57) (e : d1 = ((d.toNat : Nat) : Int) - 48) (ep : p1 = (10 * (nn : Int)) % 18446744073709551616) (eq : q1 = (10 * nn + (d.toNat - 48)) % 18446744073709551616) :
    IntKind.u64.wrap (p1 + d1) = (q1 : Int) := by rw [IntKind.wrap_u64, eq, ep, e]; omega
theorem num_case (nn : Nat) (d : Nat) : 922337203685477580 < nn ∨ (nn = 922337203685477580 ∧ 56 < d) ∨ (nn = 922337203685477580 ∧ ¬ 56 < d) ∨ nn < 922337203685477580 := by omega
theorem int_gt {n m : Nat} (h : n < m) : (n : Int) < (m : Int) := by omega
theorem int_ngt {n m : Nat} (h : ¬ n < m) : ¬ (n : Int) < (m : Int) := by omega
theorem neg_facts {nn : Nat} {m1 : Int} (h1 : 1 ≤ nn) (h2 : nn ≤ 9223372036854775808) (e : m1 = (nn : Int) - 1) :
    IntKind.u64.wrap ((nn : Int) - 1) = m1 ∧ IntKind.i64.wrap m1 = m1 ∧ wrap64 m1 = m1 ∧ wrap64 (-m1) = -m1 ∧ wrap64 (-m1 - 1) = -(nn : Int) :=
  ⟨by rw [IntKind.wrap_u64]; omega, IntWalk.i64_in _ (by omega), by unfold wrap64; omega, by unfold wrap64; omega, by unfold wrap64; omega⟩
theorem pos_facts {nn : Nat} (h : nn < 9223372036854775808) : IntKind.i64.wrap (nn : Int) = (nn : Int) ∧ wrap64 (nn : Int) = (nn : Int) := ⟨IntWalk.i64_in _ (by omega), by unfold wrap64; omega⟩
theorem low_not {c : UInt8} (h : low c = true) : dig c = false := by
  simp only [low, dig, Bool.and_eq_true, decide_eq_true_eq, Bool.and_eq_false_iff, decide_eq_false_iff_not] at h ⊢
  omega
end Go.Proofs.Ytcajcmaldnmbjaa.Tk
namespace Go.Proofs.Ytcajcmaldnmbjaa.Tk
open Go.RowKit
set_option linter.unusedVariables false
set_option linter.unusedSimpArgs false

end Go.Proofs.Ytcajcmaldnmbjaa.Tk
