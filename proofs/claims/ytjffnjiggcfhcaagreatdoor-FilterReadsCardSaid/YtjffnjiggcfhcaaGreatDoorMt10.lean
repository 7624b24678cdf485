/-
  The library's functions that the code calls, each by what it answers (strings_Join, strings_Join_none, strconv_FormatInt_10): laid at this program by the shelf, without conditions of our own.
-/
import Derived.Test.YtjffnjiggcfhcaaGreatDoorMt09
import Derived.Test.YtjffnjiggcfhcaaGreatDoorMt03
import Derived.Test.YtjffnjiggcfhcaaGreatDoorMt08
import Derived.Test.YtjffnjiggcfhcaaGreatDoorMt05
import Derived.Lib.ItoaLen
import Derived.Lib.JoinFns
import Derived.Shelf.Strings.Builder1
import Derived.Shelf.Strings.Builder2
import Derived.Shelf.Strings.OnBuilder
import Derived.Shelf.Small.Strs
import Derived.Shelf.Strconv.Itoa0
import Derived.Shelf.Strconv.Itoa1
import Derived.Shelf.LaysM
import Derived.Shelf.Strconv.Itoa2
import Derived.Shelf.Strconv.Itoa3
import Derived.Shelf.Strconv.Itoa4
import Derived.Shelf.Strconv.ParseIntEmpty
import Derived.Shelf.Strconv.Clone
import Derived.Shelf.Strconv.SyntaxError
import Derived.Shelf.LaysC
import Derived.Shelf.Strconv.ToError
import Derived.Shelf.Strconv.Lower
import Derived.Shelf.Strconv.ParseUint10
import Derived.Shelf.Strconv.ParseUint10Empty
import Derived.Shelf.Strconv.ParseUint10Any
import Derived.Shelf.Strconv.ParseInt10
import Derived.Shelf.Strconv.RangeError
import Derived.Shelf.Strconv.ToErrorRange
import Derived.Shelf.Strconv.ParseUintEmpty
import Derived.Shelf.Strconv.ParseUint10b64
import Derived.Shelf.Strconv.ParseUint10b32
import Derived.Shelf.Strconv.ParseUint10b16
import Derived.Shelf.Strconv.ParseUint10b8
import Derived.Shelf.Strconv.ParseUint10At
import Derived.Shelf.Strconv.ParseInt10At64
import Derived.Shelf.Strconv.ParseInt10At32
import Derived.Shelf.Strconv.ParseInt10At16
import Derived.Shelf.Strconv.ParseInt10At8
import Derived.Shelf.Strconv.ParseInt10All
import Derived.Shelf.Strconv.ParseIntPublic10
import Derived.Shelf.Strconv.ErrVarParseInt
import Derived.Shelf.Strings.Search1
import Derived.Shelf.Strings.Prefix
import Derived.Test.YtjffnjiggcfhcaaGreatDoorProg
/-
  Contract of Same of package filter: are two filters the same? To any depth. Memory that was there is left as it was.
-/
namespace Go.Proofs.YtjffnjiggcfhcaaGreatDoor.Fl
open Go.RowKit
set_option linter.unusedVariables false
set_option linter.unusedSimpArgs false

theorem beq_bytes (s r : ByteArray) : (s.toList == r.toList) = decide (s = r) := by
  by_cases h : s = r
  · rw [decide_eq_true h, h]; simp
  · rw [decide_eq_false h, beq_eq_false_iff_ne]
    intro e
    rw [Lib.toList_data, Lib.toList_data] at e
    exact h (by obtain ⟨⟨a⟩⟩ := s; obtain ⟨⟨b⟩⟩ := r; simpa using e)
theorem ne_bytes {s r : ByteArray} (h : ¬ s = r) : ¬ s.toList = r.toList := by
  have := beq_bytes s r
  rw [decide_eq_false h, beq_eq_false_iff_ne] at this
  exact this
theorem bs_inj {s : ByteArray} {l : List UInt8} (h : s.data.toList = l) : s = ⟨l.toArray⟩ := by rw [← h]
set_option maxHeartbeats 4000000 in
set_option maxRecDepth 100000 in
theorem same_ok (f : Flt) (ih : ∀ q ∈ f.parts, SameOk q) : SameOk f := by
  obtain ⟨k, nm, o, vs, ps⟩ := f
  rintro ⟨k2, nm2, o2, vs2, ps2⟩ a c b d a' c' b' d' w hF hG
  simp only [Flt.kind, Flt.name, Flt.op, Flt.vals, Flt.parts] at ih ⊢
  have hlen : ps.length ≤ 9223372036854775807 := by have := hF.small.2.2.2.2; simp only [Flt.parts] at this; unfold maxLen at this; omega
  obtain ⟨sn, en, hsn⟩ := bs_bytes nm
  obtain ⟨so, eo, hso⟩ := bs_bytes o
  obtain ⟨sn2, en2, hsn2⟩ := bs_bytes nm2
  obtain ⟨so2, eo2, hso2⟩ := bs_bytes o2
  rw [en, eo, en2, eo2]
  have CE := Lib.hid (fun W h1 h2 => equal_any vs vs2 a a' c c' W h1 h2)
  have CF := Lib.hid (fun W h1 h2 => equalFunc_any ps ps2 ih b b' d d' W hlen h1 h2)
  have HA1 := Lib.hid hF.atts
  have HA2 := Lib.hid hG.atts
  have HP1 := Lib.hid hF.parts
  have HP2 := Lib.hid hG.parts
  simp only [Flt.vals] at HA1 HA2
  simp only [Flt.parts] at HP1 HP2
  have hv0 : sameB (.mk k nm o vs ps) (.mk k2 nm2 o2 vs2 ps2) = (decide (k = k2) && decide (sn = sn2) && decide (so = so2) && attsEq vs vs2 && sameL ps ps2) := by
    rw [sameB]
    simp only [Flt.kind, Flt.name, Flt.op, Flt.vals, Flt.parts]
    rw [← beq_bytes sn sn2, ← beq_bytes so so2, Lib.toList_data, Lib.toList_data, Lib.toList_data, Lib.toList_data, hsn, hsn2, hso, hso2]
    rfl
  obtain ⟨res, hres⟩ : ∃ x, x = sameB (.mk k nm o vs ps) (.mk k2 nm2 o2 vs2 ps2) := ⟨_, rfl⟩
  obtain ⟨ea, hea⟩ : ∃ x, x = attsEq vs vs2 := ⟨_, rfl⟩
  obtain ⟨el, hel⟩ : ∃ x, x = sameL ps ps2 := ⟨_, rfl⟩
  rw [← hres, ← hea, ← hel] at hv0
  rw [← hres]
  rw [← hea] at CE
  rw [← hel] at CF
  have HV := Lib.hid hv0
  obtain ⟨n1, hn1⟩ : ∃ x, x = vs.length := ⟨_, rfl⟩
  obtain ⟨n2, hn2⟩ : ∃ x, x = vs2.length := ⟨_, rfl⟩
  obtain ⟨l1, hl1⟩ : ∃ x, x = ps.length := ⟨_, rfl⟩
  obtain ⟨l2, hl2⟩ : ∃ x, x = ps2.length := ⟨_, rfl⟩
  rw [← hn1, ← hn2] at CE ⊢
  rw [← hl1, ← hl2] at CF ⊢
  clear ih hF hG en eo en2 eo2 hsn hso hsn2 hso2 hv0 hres hea hel hn1 hn2 hl1 hl2 hlen
  obtain ⟨w1, hw1⟩ : ∃ v, v = (w.alloc (.cells #[.int .i64 k, .string sn, .string so, .slice a n1 c, .slice b l1 d] 25)).alloc (.cells #[.int .i64 k2, .string sn2, .string so2, .slice a' n2 c', .slice b' l2 d'] 25) := ⟨_, rfl⟩
  have hs1 : (w.alloc (.cells #[.int .i64 k, .string sn, .string so, .slice a n1 c, .slice b l1 d] 25)).heap.size = w.heap.size + 1 := by simp
  have X1 := Lib.hid (show Box w1 w.heap.size (.int .i64 k) (.string sn) (.string so) (.slice a n1 c) (.slice b l1 d) by rw [hw1]; exact (Box.new ..).later ((Below.refl _ _).alloc (Nat.le_refl _) _))
  have X2 := Lib.hid (show Box w1 (w.heap.size + 1) (.int .i64 k2) (.string sn2) (.string so2) (.slice a' n2 c') (.slice b' l2 d') by rw [hw1, ← hs1]; exact Box.new ..)
  have HB := Lib.hid (show Below w.heap.size w w1 by rw [hw1]; exact ((Below.refl _ _).alloc (Nat.le_refl _) _).alloc (by rw [hs1]; omega) _)
  have HW := Lib.hid hw1
  clear hw1 hs1
  by_cases h1 : k = k2
  · subst h1
    by_cases h2 : sn = sn2
    · subst h2
      by_cases h3 : so = so2
      · subst h3
        cases ea
        · have HF0 := Lib.hid (show res = false by rw [HV.out]; simp)
          go_enter Tryz.func10, Tryz.ntmps10
          go_wp2_with (go_at_call 22; rw [← HW.out]; refine Calls.mono (CE.out _ (HA1.out.fit HB.out) (HA2.out.fit HB.out)) ?_; rintro e w2 ⟨rfl, hb⟩; have HB2 := Lib.hid (HB.out.trans (hb.mono HB.out.size)); clear hb)
          go_ret
          exact ⟨by rw [HF0.out]; rfl, HB2.out⟩
        · have HF0 := Lib.hid (show res = el by rw [HV.out]; simp)
          go_enter Tryz.func10, Tryz.ntmps10
          go_wp2_with (first | (go_at_call 22; rw [← HW.out]; refine Calls.mono (CE.out _ (HA1.out.fit HB.out) (HA2.out.fit HB.out)) ?_; rintro e w2 ⟨rfl, hb⟩; have HB2 := Lib.hid (HB.out.trans (hb.mono HB.out.size)); obtain ⟨c0, c1, c2, c3, c4⟩ := X1.out.later hb; obtain ⟨d0, d1, d2, d3, d4⟩ := X2.out.later hb; clear hb) | (go_at_call 23; refine Calls.mono (CF.out _ (HP1.out.fit HB2.out) (HP2.out.fit HB2.out)) ?_; rintro e w3 ⟨rfl, hb⟩; have HB3 := Lib.hid (HB2.out.trans (hb.mono HB2.out.size)); clear hb))
          go_ret
          exact ⟨by rw [HF0.out]; rfl, HB3.out⟩
      · have h3l := ne_bytes h3
        have HF0 := Lib.hid (show res = false by rw [HV.out, decide_eq_false h3]; simp)
        go_enter Tryz.func10, Tryz.ntmps10
        go_wp2_with fail
        go_ret
        exact ⟨by rw [HF0.out]; first | rfl | simp [h3l], by rw [← HW.out]; exact HB.out⟩
    · have h2l := ne_bytes h2
      have HF0 := Lib.hid (show res = false by rw [HV.out, decide_eq_false h2]; simp)
      go_enter Tryz.func10, Tryz.ntmps10
      go_wp2_with fail
      go_ret
      exact ⟨by rw [HF0.out]; first | rfl | simp [h2l], by rw [← HW.out]; exact HB.out⟩
  · have HF0 := Lib.hid (show res = false by rw [HV.out, decide_eq_false h1]; simp)
    go_enter Tryz.func10, Tryz.ntmps10
    go_wp2_with fail
    go_ret
    exact ⟨by rw [HF0.out]; first | rfl | simp [h1], by rw [← HW.out]; exact HB.out⟩
theorem same_all : ∀ (N : Nat) (f : Flt), sz f ≤ N → SameOk f
  | 0, f, h => by have := sz_pos f; omega
  | N + 1, f, h => same_ok f fun q hq => same_all N q (by
      cases f
      simp only [Flt.parts] at hq
      have := sz_mem hq
      rw [sz] at h
      omega)
end Go.Proofs.YtjffnjiggcfhcaaGreatDoor.Fl
/-
  Plain facts on filters: how much fuel the readers have makes no difference, where it is more than the tokens are. No program here.
-/
namespace Go.Proofs.YtjffnjiggcfhcaaGreatDoor.Fl
set_option linter.unusedVariables false
set_option linter.unusedSimpArgs false

/-- Two readers answer alike at rows of at most so many tokens. -/
def Alike (L : Nat) (a b : List Tc → Option (Flt × List Tc)) : Prop := ∀ ts, ts.length ≤ L → a ts = b ts
theorem Left.short {ts r : List Tc} {n : Nat} (h : Left ts r n) : r.length ≤ ts.length := by have := h.2; omega
theorem tail_alike {w : List UInt8} {a b : List Tc → Option (Flt × List Tc)} (ha : Con a) {L : Nat} (h : Alike L a b) :
    ∀ (n : Nat) (acc : Flt) (ts : List Tc), ts.length ≤ L → tailP w a n acc ts = tailP w b n acc ts
  | 0, _, _, _ => rfl
  | n + 1, acc, ts, ht => by
    simp only [tailP]
    cases h1 : takes w ts with
    | none => rfl
    | some r =>
      have h2 := (takes_left h1).short
      simp only
      rw [← h r (by omega)]
      cases h3 : a r with
      | none => rfl
      | some x =>
        obtain ⟨y, r2⟩ := x
        have h4 := (ha _ _ _ h3).short
        exact tail_alike ha h n (add acc y) r2 (by omega)
theorem chain_alike {w : List UInt8} {k : Int} {a b : List Tc → Option (Flt × List Tc)} (ha : Con a) {L : Nat} (h : Alike L a b) : Alike L (chainP w k a) (chainP w k b) := fun ts ht => by
  simp only [chainP]
  rw [← h ts ht]
  cases h1 : a ts with
  | none => rfl
  | some x =>
    obtain ⟨x, r⟩ := x
    have h2 := (ha _ _ _ h1).short
    simp only
    rw [tail_alike ha h _ _ _ (by omega)]
theorem tail_fuel {w : List UInt8} {a : List Tc → Option (Flt × List Tc)} (ha : Con a) :
    ∀ (n m : Nat) (acc : Flt) (ts : List Tc), ts.length < n → ts.length < m → tailP w a n acc ts = tailP w a m acc ts
  | 0, _, _, _, h, _ => by omega
  | n + 1, 0, _, _, _, h => by omega
  | n + 1, m + 1, acc, ts, hn, hm => by
    simp only [tailP]
    cases h1 : takes w ts with
    | none => rfl
    | some r =>
      have h2 := (takes_left h1).2
      simp only
      cases h3 : a r with
      | none => rfl
      | some x =>
        obtain ⟨y, r2⟩ := x
        have h4 := (ha _ _ _ h3).short
        exact tail_fuel ha n m (add acc y) r2 (by omega) (by omega)
theorem not_fuel : ∀ (n m : Nat) (ts : List Tc), ts.length < n → ts.length < m → notP n ts = notP m ts
  | 0, _, _, h, _ => by omega
  | n + 1, 0, _, _, h => by omega
  | n + 1, m + 1, ts, hn, hm => by
    simp only [notP]
    cases h1 : takes wNot ts with
    | some r =>
      have h2 := (takes_left h1).2
      simp only
      rw [not_fuel n m r (by omega) (by omega)]
    | none =>
      cases h2 : takes sOpen ts with
      | some r =>
        have h3 := (takes_left h2).2
        have ha : Alike r.length (notP n) (notP m) := fun us hu => not_fuel n m us (by omega) (by omega)
        have hc := chain_alike (w := wOr) (k := 2) (chain_con (not_con n)) (chain_alike (w := wAnd) (k := 1) (not_con n) ha) r (Nat.le_refl _)
        simp only [hc]
      | none => rfl
theorem or_fuel (n m : Nat) (ts : List Tc) (hn : ts.length < n) (hm : ts.length < m) : orP n ts = orP m ts :=
  chain_alike (w := wOr) (k := 2) (chain_con (not_con n)) (chain_alike (w := wAnd) (k := 1) (not_con n) (L := ts.length) (fun us hu => not_fuel n m us (by omega) (by omega))) ts (Nat.le_refl _)
end Go.Proofs.YtjffnjiggcfhcaaGreatDoor.Fl
/-
  Plain facts on filters: the text of a filter is read as it, and what is read has such a text, with any fuel above the number of tokens. No program here.
-/
namespace Go.Proofs.YtjffnjiggcfhcaaGreatDoor.Fl
open Go.Proofs.YtjffnjiggcfhcaaGreatDoor.Tk
set_option linter.unusedVariables false
set_option linter.unusedSimpArgs false

/-- What a text is read as, if it is cut, and read to its end. -/
def readL (l : List UInt8) : Option Flt :=
  match cutAt 0 l with
  | none => none
  | some ks =>
    match orP (ks.length + 1) (ks.map core) with
    | some (f, []) => some f
    | _ => none
theorem read_show {f : Flt} (h : fine f = true) (hr : rng f) : readL (showF f) = some f := by
  obtain ⟨ks, e, c⟩ := show_back h hr
  have h1 := c (2 * sz f + ks.length + 1) (by omega)
  rw [or_fuel _ (ks.length + 1) _ (by rw [List.length_map]; omega) (by rw [List.length_map]; omega)] at h1
  simp only [readL, e, h1]
theorem read_some {l : List UInt8} {f : Flt} (h : readL l = some f) : ∃ ks, cutAt 0 l = some ks ∧ orP (ks.length + 1) (ks.map core) = some (f, []) := by
  unfold readL at h
  cases h1 : cutAt 0 l with
  | none => simp [h1] at h
  | some ks =>
    simp only [h1] at h
    cases h2 : orP (ks.length + 1) (ks.map core) with
    | none => simp [h2] at h
    | some x =>
      obtain ⟨g, r⟩ := x
      match r, h, h2 with
      | [], h, h2 =>
        simp only [h2] at h
        cases h
        exact ⟨ks, rfl, h2⟩
      | t :: r, h, h2 => simp [h2] at h
theorem read_fine {l : List UInt8} {f : Flt} (h : readL l = some f) (hs : slim f = true) : fine f = true ∧ rng f := by
  obtain ⟨ks, h1, h2⟩ := read_some h
  have hg := read_good h1 h2
  exact ⟨fine_of f hg.1 hs, hg.2⟩
/-- What is read has a text that is read as it. -/
theorem read_read {l : List UInt8} {f : Flt} (h : readL l = some f) (hs : slim f = true) : readL (showF f) = some f := by
  obtain ⟨h1, h2⟩ := read_fine h hs
  exact read_show h1 h2
end Go.Proofs.YtjffnjiggcfhcaaGreatDoor.Fl
/-
  A reader of tokens in memory; contracts of take, next and value of package filter's reader. Memory that was there is left as it was, but for what the reader has left.
-/
namespace Go.Proofs.YtjffnjiggcfhcaaGreatDoor.Fl
open Go.RowKit Go.Proofs.YtjffnjiggcfhcaaGreatDoor.Tk
set_option linter.unusedVariables false
set_option linter.unusedSimpArgs false

/-- A good token. -/
def TG (t : Tok) : Prop := (t.kind = 2 → wordB t.str = true) ∧ (t.kind = 5 → signB t.str = true) ∧ (t.kind = 1 → nameB t.str = true) ∧ (t.kind = 4 → plainB t.str = true) ∧ -9223372036854775808 ≤ t.num ∧ t.num ≤ 9223372036854775807 ∧ t.str.length ≤ 500
theorem lex_kinds {l : List UInt8} {x : Lx} (h : lex l = some x) : (x.kind = 2 → wordB x.str = true) ∧ (x.kind = 5 → signB x.str = true) := by
  match l, h with
  | c :: r, h =>
    rw [lex_cons] at h
    split at h
    · unfold nameL at h
      split at h
      · have e := (Option.some.inj h).symm
        subst e
        refine ⟨fun hk => ?_, fun hk => ?_⟩
        · simp only at hk ⊢
          split at hk
          · assumption
          · omega
        · simp only at hk
          split at hk <;> omega
      · cases h
    · split at h
      · rw [numL_cons] at h
        split at h
        · split at h
          · cases h
          · have e := (Option.some.inj h).symm
            subst e
            exact ⟨fun hk => by simp at hk, fun hk => by simp at hk⟩
        · split at h
          · cases h
          · have e := (Option.some.inj h).symm
            subst e
            exact ⟨fun hk => by simp at hk, fun hk => by simp at hk⟩
      · split at h
        · unfold textL at h
          split at h
          · have e := (Option.some.inj h).symm
            subst e
            exact ⟨fun hk => by simp at hk, fun hk => by simp at hk⟩
          · cases h
        · unfold signL at h
          split at h
          · rename_i hs
            have e := (Option.some.inj h).symm
            subst e
            exact ⟨fun hk => by simp at hk, fun _ => hs.2⟩
          · split at h
            · rename_i hs
              have e := (Option.some.inj h).symm
              subst e
              exact ⟨fun hk => by simp at hk, fun _ => hs⟩
            · cases h
theorem cut_kinds : ∀ (n a : Nat) (l : List UInt8) (ts : List Tok), l.length ≤ n → cutAt a l = some ts → ∀ t ∈ ts, (t.kind = 2 → wordB t.str = true) ∧ (t.kind = 5 → signB t.str = true) ∧ t.str.length ≤ l.length
  | n, a, [], ts, _, h => by
    rw [cutAt_nil] at h
    cases h
    simp
  | 0, a, c :: r, ts, hn, _ => by simp at hn
  | n + 1, a, c :: r, ts, hn, h => by
    simp only [List.length_cons] at hn
    by_cases hc : c.toNat = 32
    · rw [cutAt_space hc] at h
      intro t ht
      have := cut_kinds n (a + 1) r ts (by omega) h t ht
      exact ⟨this.1, this.2.1, by have := this.2.2; simp only [List.length_cons]; omega⟩
    · cases hx : lex (c :: r) with
      | none => rw [cutAt_none hc a r hx] at h; cases h
      | some x =>
        have hz := lex_size hx
        rw [cutAt_some hc a r hx] at h
        obtain ⟨us, hu, rfl⟩ := Option.map_eq_some_iff.1 h
        have hl : ((c :: r).drop x.size).length = (c :: r).length - x.size := by simp
        intro t ht
        rcases List.mem_cons.1 ht with rfl | ht
        · exact ⟨(lex_kinds hx).1, (lex_kinds hx).2, lex_str hx⟩
        · have := cut_kinds n (a + x.size) _ us (by rw [hl]; simp only [List.length_cons]; omega) hu t ht
          exact ⟨this.1, this.2.1, by have := this.2.2; omega⟩
theorem cut_TG {l : List UInt8} {ts : List Tok} (hl : l.length ≤ 500) (h : cutAt 0 l = some ts) : ∀ t ∈ ts, TG t := by
  intro t ht
  have h1 := cut_kinds l.length 0 l ts (Nat.le_refl _) h t ht
  have h2 := cut_good l.length 0 l ts (Nat.le_refl _) h
  have h3 := h2.1 (core t) (List.mem_map_of_mem ht)
  have h4 := h2.2 (core t) (List.mem_map_of_mem ht)
  exact ⟨h1.1, h1.2.1, h3.1, h3.2, h4.1, h4.2, Nat.le_trans h1.2.2 hl⟩
/-- A slice that holds tokens. -/
def Toks (W : World) (S : Nat → Prop) (a : Option Addr) (ts : List Tok) : Prop :=
  0 < ts.length → ∃ g o, a = some ⟨g, o, none⟩ ∧ S g ∧ ∀ (k : Nat) (h : k < ts.length), W.cell? ⟨g, o + k * 4, none⟩ = some (.int .i64 ts[k].kind) ∧ W.cell? ⟨g, o + k * 4 + 1, none⟩ = some (.int .i64 (ts[k].pos : Nat)) ∧
    W.cell? ⟨g, o + k * 4 + 2, none⟩ = some (.int .i64 ts[k].num) ∧ W.cell? ⟨g, o + k * 4 + 3, none⟩ = some (bs ts[k].str)
theorem Toks.far {W V : World} {S T : Nat → Prop} {a : Option Addr} {ts : List Tok} (h : Toks W S a ts) (hS : ∀ g, S g → T g ∧ V.heap[g]? = W.heap[g]?) : Toks V T a ts := by
  intro h0
  obtain ⟨g, o, e, hg, hc⟩ := h h0
  have hq : ∀ x, V.cell? ⟨g, x, none⟩ = W.cell? ⟨g, x, none⟩ := fun x => World.cell?_of_block (w := W) (w' := V) (a := ⟨g, x, none⟩) (hS g hg).2
  exact ⟨g, o, e, (hS g hg).1, fun k hk => by simp only [hq]; exact hc k hk⟩
theorem Toks.tail {W : World} {S : Nat → Prop} {g o : Nat} {t : Tok} {r : List Tok} (h : Toks W S (some ⟨g, o, none⟩) (t :: r)) (cap : Nat) (hc : (t :: r).length ≤ cap) : Toks W S (if cap = 1 then some ⟨g, o, none⟩ else some ⟨g, o + 4, none⟩) r := by
  intro h0
  obtain ⟨g', o', e, hg, hcl⟩ := h (by simp)
  cases e
  have hc1 : ¬ cap = 1 := by simp only [List.length_cons] at hc; omega
  rw [if_neg hc1]
  refine ⟨g, o + 4, rfl, hg, fun k hk => ?_⟩
  have := hcl (k + 1) (by simpa using hk)
  simp only [List.getElem_cons_succ] at this
  rw [show o + (k + 1) * 4 = o + 4 + k * 4 by omega] at this
  exact this
/-- What a reader has left. -/
def RdAt (W : World) (p z : Nat) (ts : List Tok) : Prop :=
  ∃ a cap, W.cell? ⟨p, 0, none⟩ = some (.slice a ts.length cap) ∧ W.frozen? ⟨p, 0, none⟩ = false ∧ ts.length ≤ cap ∧ Toks W (Old z) a ts
theorem RdAt.lt {W : World} {p z : Nat} {ts : List Tok} (h : RdAt W p z ts) : p < W.heap.size := by
  obtain ⟨a, cap, hc, _⟩ := h
  exact World.block_lt_of_cell? W ⟨p, 0, none⟩ hc
/-- What leaves the reader's block, and the tokens', alone. -/
theorem RdAt.keep {W V : World} {p z : Nat} {ts : List Tok} (h : RdAt W p z ts) (hp : V.heap[p]? = W.heap[p]?) (hz : ∀ g, g < z → V.heap[g]? = W.heap[g]?) : RdAt V p z ts := by
  obtain ⟨a, cap, hc, hf, hl, ht⟩ := h
  exact ⟨a, cap, (World.cell?_of_block (w := W) (w' := V) (a := ⟨p, 0, none⟩) hp).trans hc, (World.frozen?_of_block (w := W) (w' := V) (a := ⟨p, 0, none⟩) hp).trans hf, hl, ht.far fun g hg => ⟨hg, hz g hg⟩⟩
theorem RdAt.later {W V : World} {p z : Nat} {ts : List Tok} (h : RdAt W p z ts) (hz : z ≤ p) (hb : Below W.heap.size W V) : RdAt V p z ts :=
  h.keep (hb.block p h.lt) fun g hg => hb.block g (by have := h.lt; omega)
theorem RdAt.alloc {W : World} {p z : Nat} {ts : List Tok} (h : RdAt W p z ts) (hz : z ≤ p) (o : Obj) : RdAt (W.alloc o) p z ts := h.later hz ((Below.refl _ _).alloc (Nat.le_refl _) o)
/-- A store into another block, from z on. -/
theorem RdAt.setCell {W : World} {p z q x : Nat} {ts : List Tok} (h : RdAt W p z ts) (hq : q ≠ p) (hz : z ≤ q) (v : Value) : RdAt (W.setCell ⟨q, x, none⟩ v) p z ts :=
  h.keep (Below.heap_setCell _ _ _ _ (fun e => hq e.symm)) fun g hg => Below.heap_setCell _ _ _ _ (by intro e; simp only at e; omega)
theorem bs_ne {s : ByteArray} {l : List UInt8} : ((⟨l.toArray⟩ : ByteArray) = s) ↔ l = s.data.toList := bytes_eq s l
theorem RdAt.set {w : World} {p z : Nat} {x : Value} {a : Option Addr} {cap : Nat} {r : List Tok} (hc : w.cell? ⟨p, 0, none⟩ = some x) (hf : w.frozen? ⟨p, 0, none⟩ = false) (hl : r.length ≤ cap) (ht : Toks w (Old z) a r) (hz : z ≤ p) : RdAt (w.setCell ⟨p, 0, none⟩ (.slice a r.length cap)) p z r :=
  ⟨a, cap, by simp [go_sem, hc], by simp [go_sem, hf], hl, ht.far fun g hg => ⟨hg, Below.heap_setCell _ _ _ _ (by have : g < z := hg; simp only; omega)⟩⟩
theorem RdAt.set_nil {w : World} {p z : Nat} {x : Value} (a : Option Addr) (hc : w.cell? ⟨p, 0, none⟩ = some x) (hf : w.frozen? ⟨p, 0, none⟩ = false) (hz : z ≤ p) : RdAt (w.setCell ⟨p, 0, none⟩ (.slice a 0 0)) p z [] :=
  RdAt.set (r := []) (a := a) (cap := 0) hc hf (Nat.le_refl _) (fun h => absurd h (Nat.lt_irrefl _)) hz
/-- What take tells. -/
def TakeEnd (s : List UInt8) (ts : List Tok) (p z : Nat) (w w' : World) (e : Ending) : Prop :=
  (takes s (ts.map core) = none ∧ e = .returned (.bool false) ∧ w = w') ∨ (∃ t r, ts = t :: r ∧ takes s (ts.map core) = some (r.map core) ∧ e = .returned (.bool true) ∧ w.grownBy w' (some p) ∧ RdAt w' p z r)
set_option maxHeartbeats 1000000 in
theorem take_any (s : ByteArray) (kd : Int) (hkd : ∀ t, TG t → ((t.kind = 2 ∨ t.kind = 5) ∧ t.str = s.data.toList ↔ t.kind = kd ∧ t.str = s.data.toList)) (ts : List Tok) (hg : ∀ t ∈ ts, TG t) (hl : ts.length ≤ 600) (p z : Nat) (hz : z ≤ p) (w : World) (hR : RdAt w p z ts) :
    Calls Tryz.prog 61 #[.pointer (some ⟨p, 0, none⟩), .int .i64 kd, .string s] w fun e w' => TakeEnd s.data.toList ts p z w w' e := by
  obtain ⟨a, cap, hc, hf, hcap, ht⟩ := hR
  cases ts with
  | nil =>
    simp only [List.length_nil] at hc
    have HN := Lib.hid (show TakeEnd s.data.toList [] p z w w (.returned (.bool false)) from Or.inl ⟨rfl, rfl, rfl⟩)
    clear ht hg hkd hl hcap
    go_enter Tryz.func61, Tryz.ntmps61
    go_wp2_with fail
    go_ret
    exact HN.out
  | cons t r =>
    obtain ⟨g, o, ha, hgz, hcl⟩ := ht (by simp)
    subst ha
    obtain ⟨c0, c1, c2, c3⟩ := hcl 0 (by simp)
    simp only [List.getElem_cons_zero, Nat.zero_mul, Nat.add_zero] at c0 c1 c2 c3
    have HT := Lib.hid ht
    obtain ⟨st, est, hst⟩ := bs_bytes t.str
    rw [est] at c3
    obtain ⟨k, hk⟩ : ∃ x, x = t.kind := ⟨_, rfl⟩
    rw [← hk] at c0
    have HK := Lib.hid (hkd t (hg t (List.mem_cons_self ..)))
    rw [← hk, ← hst] at HK
    have HTK := Lib.hid (show takes s.data.toList ((t :: r).map core) = if (k = 2 ∨ k = 5) ∧ st.data.toList = s.data.toList then some (r.map core) else none by rw [hk, hst]; rfl)
    have hn : (t :: r).length = r.length + 1 := rfl
    rw [hn] at hc hcap hl
    have hr600 : r.length ≤ 600 := by omega
    have hcap1 : 1 ≤ cap := by omega
    have HCAP := Lib.hid hcap
    have hnz : ¬ ((r.length : Int) + 1 = 0) := by omega
    have hnb : ((r.length : Int) + 1 == 0) = false := by rw [beq_eq_false_iff_ne]; exact hnz
    have hnb2 : (((r.length + 1 : Nat) : Int) == 0) = false := by rw [beq_eq_false_iff_ne]; omega
    have hpos : (0 : Int) < ((r.length + 1 : Nat) : Int) := by omega
    have HGZ := Lib.hid hgz
    have hgp : ¬ g = p := by have : g < z := hgz; omega
    clear ht hg hkd est hst hcl c1 c2 hgz hcap
    by_cases h1 : k = kd
    · by_cases h2 : st = s
      · have HY := Lib.hid (show takes s.data.toList ((t :: r).map core) = some (r.map core) by rw [HTK.out, if_pos (HK.out.2 ⟨h1, by rw [h2]⟩)])
        clear HK HTK
        subst h1
        subst h2
        by_cases h3 : cap = 1
        · obtain rfl : r = [] := List.eq_nil_of_length_eq_zero (by have := HCAP.out; omega)
          have HRD := Lib.hid (show RdAt (w.setCell ⟨p, 0, none⟩ (.slice (some ⟨g, o, none⟩) 0 0)) p z [] from RdAt.set_nil _ hc hf hz)
          subst h3
          go_enter Tryz.func61, Tryz.ntmps61
          go_wp2_with fail
          go_ret
          exact Or.inr ⟨t, [], rfl, HY.out, rfl, gr_set (gr_refl _ _) _, HRD.out⟩
        · have HRD := Lib.hid (show RdAt (w.setCell ⟨p, 0, none⟩ (.slice (some ⟨g, o + 4, none⟩) r.length (cap - 1))) p z r from RdAt.set hc hf (by have := HCAP.out; omega) (by have := HT.out.tail cap HCAP.out; rwa [if_neg h3] at this) hz)
          go_enter Tryz.func61, Tryz.ntmps61
          go_wp2_with fail
          go_ret
          exact Or.inr ⟨t, r, rfl, HY.out, rfl, gr_set (gr_refl _ _) _, HRD.out⟩
      · have h2l := ne_bytes h2
        have h2b : (st.toList == s.toList) = false := by rw [beq_eq_false_iff_ne]; exact h2l
        have HNO := Lib.hid (show takes s.data.toList ((t :: r).map core) = none by rw [HTK.out, if_neg (fun h => h2 (by have := h.2; obtain ⟨⟨x⟩⟩ := st; obtain ⟨⟨y⟩⟩ := s; simpa using this))])
        clear HK HTK
        subst h1
        go_enter Tryz.func61, Tryz.ntmps61
        go_wp2_with fail
        go_ret
        exact Or.inl ⟨HNO.out, rfl, rfl⟩
    · have h1b : (k == kd) = false := by rw [beq_eq_false_iff_ne]; exact h1
      have HNO := Lib.hid (show takes s.data.toList ((t :: r).map core) = none by rw [HTK.out, if_neg (fun h => h1 (HK.out.1 h).1)])
      clear HK HTK
      go_enter Tryz.func61, Tryz.ntmps61
      go_wp2_with fail
      go_ret
      exact Or.inl ⟨HNO.out, rfl, rfl⟩
/-- A word, a sign is taken as one. -/
theorem word_kd {s : List UInt8} (h1 : wordB s = true) (h2 : signB s = false) (t : Tok) (h : TG t) : (t.kind = 2 ∨ t.kind = 5) ∧ t.str = s ↔ t.kind = 2 ∧ t.str = s := by
  constructor
  · rintro ⟨hk | hk, hs⟩
    · exact ⟨hk, hs⟩
    · have := h.2.1 hk
      rw [hs, h2] at this
      cases this
  · exact fun ⟨hk, hs⟩ => ⟨Or.inl hk, hs⟩
theorem sign_kd {s : List UInt8} (h1 : wordB s = false) (h2 : signB s = true) (t : Tok) (h : TG t) : (t.kind = 2 ∨ t.kind = 5) ∧ t.str = s ↔ t.kind = 5 ∧ t.str = s := by
  constructor
  · rintro ⟨hk | hk, hs⟩
    · have := h.1 hk
      rw [hs, h1] at this
      cases this
    · exact ⟨hk, hs⟩
  · exact fun ⟨hk, hs⟩ => ⟨Or.inr hk, hs⟩
/-- What next tells. -/
def NextEnd (ts : List Tok) (p z : Nat) (w w' : World) (e : Ending) : Prop :=
  w.grownBy w' (some p) ∧ ((ts = [] ∧ e = .returned (.agg #[.int .i64 0, .int .i64 0, .int .i64 0, .string ⟨#[]⟩]) ∧ RdAt w' p z []) ∨
    (∃ t r, ts = t :: r ∧ e = .returned (.agg #[.int .i64 t.kind, .int .i64 (t.pos : Nat), .int .i64 t.num, bs t.str]) ∧ RdAt w' p z r))
theorem set4' {V : World} {p q z : Nat} {ts : List Tok} (h : RdAt V p z ts) (hq : q ≠ p) (hz : z ≤ q) (x y u v : Value) : RdAt ((((V.setCell ⟨q, 0, none⟩ x).setCell ⟨q, 1, none⟩ y).setCell ⟨q, 2, none⟩ u).setCell ⟨q, 3, none⟩ v) p z ts :=
  (((h.setCell hq hz x).setCell hq hz y).setCell hq hz u).setCell hq hz v
theorem gr_new {w V : World} {r : Option Nat} {q x : Nat} (h : w.grownBy V r) (hq : w.heap.size ≤ q) (v : Value) : w.grownBy (V.setCell ⟨q, x, none⟩ v) r :=
  ⟨h.os, h.tape, h.output, by have := h.size; simpa [World.setCell] using this, fun k hk hne => (Below.heap_setCell _ _ _ _ (by simp only; omega)).trans (h.block k hk hne)⟩
set_option maxHeartbeats 1000000 in
theorem next_any (ts : List Tok) (hl : ts.length ≤ 600) (p z : Nat) (hz : z ≤ p) (w : World) (hR : RdAt w p z ts) :
    Calls Tryz.prog 104 #[.pointer (some ⟨p, 0, none⟩)] w fun e w' => NextEnd ts p z w w' e := by
  have HR0 := Lib.hid hR
  have hp : p < w.heap.size := hR.lt
  have hpne : ¬ p = w.heap.size := by omega
  obtain ⟨a, cap, hc, hf, hcap, ht⟩ := hR
  cases ts with
  | nil =>
    simp only [List.length_nil] at hc
    clear ht hl hcap
    go_enter Tryz.func104, Tryz.ntmps104
    go_wp2_with fail
    refine bodyPost_ret (v := .agg #[.int .i64 0, .int .i64 0, .int .i64 0, .string ⟨#[]⟩]) (by simp [results, Tryz.results104, go_sem, *]) rfl ?_
    exact ⟨gr_alloc (gr_refl _ _) _, Or.inl ⟨rfl, rfl, HR0.out.alloc hz _⟩⟩
  | cons t r =>
    obtain ⟨g, o, ha, hgz, hcl⟩ := ht (by simp)
    subst ha
    obtain ⟨c0, c1, c2, c3⟩ := hcl 0 (by simp)
    simp only [List.getElem_cons_zero, Nat.zero_mul, Nat.add_zero] at c0 c1 c2 c3
    have HT := Lib.hid ht
    obtain ⟨st, est, hst⟩ := bs_bytes t.str
    rw [est] at c3
    obtain ⟨k, hk⟩ : ∃ x, x = t.kind := ⟨_, rfl⟩
    obtain ⟨ps, hps⟩ : ∃ x, x = t.pos := ⟨_, rfl⟩
    obtain ⟨nm, hnm⟩ : ∃ x, x = t.num := ⟨_, rfl⟩
    rw [← hk] at c0
    rw [← hps] at c1
    rw [← hnm] at c2
    have HV := Lib.hid (show Value.agg #[.int .i64 t.kind, .int .i64 (t.pos : Nat), .int .i64 t.num, bs t.str] = .agg #[.int .i64 k, .int .i64 (ps : Nat), .int .i64 nm, .string st] by rw [hk, hps, hnm, est])
    have hn : (t :: r).length = r.length + 1 := rfl
    rw [hn] at hc hcap hl
    have hr600 : r.length ≤ 600 := by omega
    have hcap1 : 1 ≤ cap := by omega
    have HCAP := Lib.hid hcap
    have hnz : ¬ ((r.length : Int) + 1 = 0) := by omega
    have hnb : ((r.length : Int) + 1 == 0) = false := by rw [beq_eq_false_iff_ne]; exact hnz
    have hpos : (0 : Int) < ((r.length + 1 : Nat) : Int) := by omega
    have hgz2 : g < z := hgz
    have hgp : ¬ g = p := by omega
    have hgw : g < w.heap.size := by omega
    have hgne : ¬ g = w.heap.size := by omega
    clear ht est hst hcl hk hps hnm hgz hcap
    by_cases h3 : cap = 1
    · obtain rfl : r = [] := List.eq_nil_of_length_eq_zero (by have := HCAP.out; omega)
      have HRD := Lib.hid (show RdAt (w.setCell ⟨p, 0, none⟩ (.slice (some ⟨g, o, none⟩) 0 0)) p z [] from RdAt.set_nil _ hc hf hz)
      subst h3
      go_enter Tryz.func104, Tryz.ntmps104
      go_wp2_with fail
      refine bodyPost_ret (v := .agg #[.int .i64 k, .int .i64 (ps : Nat), .int .i64 nm, .string st]) (by simp [results, Tryz.results104, go_sem, *]) rfl ?_
      exact ⟨gr_alloc (gr_alloc (gr_set (gr_refl _ _) _) _) _, Or.inr ⟨t, [], rfl, by rw [HV.out], (HRD.out.alloc hz _).alloc hz _⟩⟩
    · have HRD := Lib.hid (show RdAt (w.setCell ⟨p, 0, none⟩ (.slice (some ⟨g, o + 4, none⟩) r.length (cap - 1))) p z r from RdAt.set hc hf (by have := HCAP.out; omega) (by have := HT.out.tail cap HCAP.out; rwa [if_neg h3] at this) hz)
      go_enter Tryz.func104, Tryz.ntmps104
      go_wp2_with fail
      refine bodyPost_ret (v := .agg #[.int .i64 k, .int .i64 (ps : Nat), .int .i64 nm, .string st]) (by simp [results, Tryz.results104, go_sem, *]) rfl ?_
      exact ⟨gr_alloc (gr_alloc (gr_set (gr_refl _ _) _) _) _, Or.inr ⟨t, r, rfl, by rw [HV.out], (HRD.out.alloc hz _).alloc hz _⟩⟩
end Go.Proofs.YtjffnjiggcfhcaaGreatDoor.Fl
/-
  Contract of value of package filter's reader. Memory that was there is left as it was, but for what the reader has left.
-/
namespace Go.Proofs.YtjffnjiggcfhcaaGreatDoor.Fl
open Go.RowKit Go.Proofs.YtjffnjiggcfhcaaGreatDoor.Tk
set_option linter.unusedVariables false
set_option linter.unusedSimpArgs false

/-- What value tells. -/
def ValEnd (ts : List Tok) (p z : Nat) (w w' : World) (e : Ending) : Prop :=
  w.grownBy w' (some p) ∧ ((valP (ts.map core) = none ∧ e = .returned (.tuple #[.agg #[bs [], .bool false, .int .i64 0, bs []], .bool false]) ∧ ∃ r, RdAt w' p z r) ∨
    (∃ t r v, ts = t :: r ∧ valP (ts.map core) = some (v, r.map core) ∧ e = .returned (.tuple #[.agg #[bs v.name, .bool v.text, .int .i64 v.num, bs v.str], .bool true]) ∧ RdAt w' p z r))
set_option maxHeartbeats 1000000 in
theorem value_any (ts : List Tok) (hl : ts.length ≤ 600) (p z : Nat) (hz : z ≤ p) (w : World) (hR : RdAt w p z ts) :
    Calls Tryz.prog 105 #[.pointer (some ⟨p, 0, none⟩)] w fun e w' => ValEnd ts p z w w' e := by
  have hp : p < w.heap.size := hR.lt
  obtain ⟨w1, hw1⟩ : ∃ v, v = w.alloc (.cells #[.string ⟨#[]⟩, .bool false, .int .i64 0, .string ⟨#[]⟩] 47) := ⟨_, rfl⟩
  have HW := Lib.hid hw1
  have G1 := Lib.hid (show w.grownBy w1 (some p) by rw [hw1]; exact gr_alloc (gr_refl _ _) _)
  have CN := Lib.hid (next_any ts hl p z hz w1 (by rw [hw1]; exact hR.alloc hz _))
  have X1 := Lib.hid (show Blk w1 w.heap.size (.string ⟨#[]⟩) (.bool false) (.int .i64 0) (.string ⟨#[]⟩) by rw [hw1]; exact Blk.new ..)
  have HP := Lib.hid hp
  clear hw1 hR hl
  go_enter Tryz.func105, Tryz.ntmps105
  go_wp2_with fail
  rw [← HW.out]
  refine Calls.mono CN.out ?_
  rintro e w2 ⟨hg, h⟩
  have HG2 := Lib.hid hg
  have X2 := Lib.hid (show Blk w2 w.heap.size (.string ⟨#[]⟩) (.bool false) (.int .i64 0) (.string ⟨#[]⟩) from by
    obtain ⟨h0, h1, h2, h3, hf, hlt⟩ := X1.out
    have hb := hg.block w.heap.size hlt (by intro e; cases e; have := HP.out; omega)
    have hq : ∀ x, w2.cell? ⟨w.heap.size, x, none⟩ = w1.cell? ⟨w.heap.size, x, none⟩ := fun x => World.cell?_of_block (w := w1) (w' := w2) (a := ⟨w.heap.size, x, none⟩) hb
    exact ⟨(hq _).trans h0, (hq _).trans h1, (hq _).trans h2, (hq _).trans h3, fun o => (World.frozen?_of_block (w := w1) (w' := w2) (a := ⟨w.heap.size, o, none⟩) hb).trans (hf o), Nat.lt_of_lt_of_le hlt hg.size⟩)
  obtain ⟨x0, x1, x2, x3, xf, xl⟩ := X2.out
  have hqp : ¬ w.heap.size = p := by omega
  clear hg
  rcases h with ⟨hts, rfl, hr⟩ | ⟨t, r, hts, rfl, hr⟩
  · have HR2 := Lib.hid hr
    have HN := Lib.hid (show valP (ts.map core) = none by rw [hts]; rfl)
    clear hr
    go_wp2_with fail
    refine bodyPost_ret (v := .tuple #[.agg #[.string ⟨#[]⟩, .bool false, .int .i64 0, .string ⟨#[]⟩], .bool false]) (by simp [results, Tryz.results105, go_sem, *]) rfl ?_
    exact ⟨gr_alloc (gr_new (gr_new (gr_new (gr_new (G1.out.trans HG2.out) (Nat.le_refl _) _) (Nat.le_refl _) _) (Nat.le_refl _) _) (Nat.le_refl _) _) _, Or.inl ⟨HN.out, rfl, [], (set4' HR2.out hqp (by omega) _ _ _ _).alloc hz _⟩⟩
  · have HR2 := Lib.hid hr
    have HN := Lib.hid (show valP (ts.map core) = if t.kind = 4 then some (⟨[], true, 0, t.str⟩, r.map core) else if t.kind = 3 then some (⟨[], false, t.num, []⟩, r.map core) else none by rw [hts]; rfl)
    obtain ⟨st, est, hst⟩ := bs_bytes t.str
    obtain ⟨k, hk⟩ : ∃ x, x = t.kind := ⟨_, rfl⟩
    obtain ⟨ps, hps⟩ : ∃ x, x = t.pos := ⟨_, rfl⟩
    obtain ⟨nm, hnm⟩ : ∃ x, x = t.num := ⟨_, rfl⟩
    rw [← hk, ← hps, ← hnm, est]
    rw [← hk] at HN
    have HST := Lib.hid (And.intro est (And.intro hnm hts))
    clear hr hts est hst hk hps hnm
    by_cases h3 : k = 3
    · have HN2 := Lib.hid (show valP (ts.map core) = some (⟨[], false, t.num, []⟩, r.map core) by rw [HN.out, if_neg (by omega), if_pos h3])
      subst h3
      go_wp2_with fail
      refine bodyPost_ret (v := .tuple #[.agg #[.string ⟨#[]⟩, .bool false, .int .i64 nm, .string ⟨#[]⟩], .bool true]) (by simp [results, Tryz.results105, go_sem, *]) rfl ?_
      exact ⟨gr_alloc (gr_new (gr_new (gr_new (gr_new (G1.out.trans HG2.out) (Nat.le_refl _) _) (Nat.le_refl _) _) (Nat.le_refl _) _) (Nat.le_refl _) _) _, Or.inr ⟨t, r, _, HST.out.2.2, HN2.out, by rw [← HST.out.2.1]; rfl, (set4' HR2.out hqp (by omega) _ _ _ _).alloc hz _⟩⟩
    by_cases h4 : k = 4
    · have HN2 := Lib.hid (show valP (ts.map core) = some (⟨[], true, 0, t.str⟩, r.map core) by rw [HN.out, if_pos h4])
      subst h4
      go_wp2_with fail
      refine bodyPost_ret (v := .tuple #[.agg #[.string ⟨#[]⟩, .bool true, .int .i64 0, .string st], .bool true]) (by simp [results, Tryz.results105, go_sem, *]) rfl ?_
      exact ⟨gr_alloc (gr_new (gr_new (gr_new (gr_new (G1.out.trans HG2.out) (Nat.le_refl _) _) (Nat.le_refl _) _) (Nat.le_refl _) _) (Nat.le_refl _) _) _, Or.inr ⟨t, r, _, HST.out.2.2, HN2.out, by rw [← HST.out.1]; rfl, (set4' HR2.out hqp (by omega) _ _ _ _).alloc hz _⟩⟩
    · have HN2 := Lib.hid (show valP (ts.map core) = none by rw [HN.out, if_neg h4, if_neg h3])
      go_wp2_with fail
      refine bodyPost_ret (v := .tuple #[.agg #[.string ⟨#[]⟩, .bool false, .int .i64 0, .string ⟨#[]⟩], .bool false]) (by simp [results, Tryz.results105, go_sem, *]) rfl ?_
      exact ⟨gr_alloc (gr_new (gr_new (gr_new (gr_new (G1.out.trans HG2.out) (Nat.le_refl _) _) (Nat.le_refl _) _) (Nat.le_refl _) _) (Nat.le_refl _) _) _, Or.inl ⟨HN2.out, rfl, r, (set4' HR2.out hqp (by omega) _ _ _ _).alloc hz _⟩⟩
end Go.Proofs.YtjffnjiggcfhcaaGreatDoor.Fl
/-
  How long filters' texts are; texts put together. No function of the program here.
-/
namespace Go.Proofs.YtjffnjiggcfhcaaGreatDoor.Fl
open Go.RowKit Go.Proofs.YtjffnjiggcfhcaaGreatDoor.Tk
set_option linter.unusedVariables false
set_option linter.unusedSimpArgs false

theorem app_list (s t : ByteArray) : (s ++ t).data.toList = s.data.toList ++ t.data.toList := by simp
theorem bs_of {s : ByteArray} {l : List UInt8} (h : s.data.toList = l) : s = ⟨l.toArray⟩ := by rw [← h]
theorem showV_len {v : Att} (h : valB v = true) (hr : rngV v) : (showV v).length ≤ 202 := by
  unfold showV
  cases ht : v.text
  · simp only [Bool.false_eq_true, if_false]
    have := Lib.itoa_length_le v.num hr.1 hr.2
    omega
  · simp only [if_true]
    unfold valB at h
    rw [ht] at h
    simp only [if_true, Bool.and_eq_true] at h
    have h9 := h.2.2
    rw [plainB_eq, Bool.and_eq_true, decide_eq_true_eq] at h9
    simp
    omega
theorem showVs_len : ∀ {vs : List Att}, (∀ v ∈ vs, valB v = true ∧ rngV v) → (showVs vs).length ≤ 204 * vs.length
  | [], _ => by simp [showVs]
  | v :: r, h => by
    have h1 := showV_len (h v (List.mem_cons_self ..)).1 (h v (List.mem_cons_self ..)).2
    have h2 := showVs_len (vs := r) fun u hu => h u (List.mem_cons_of_mem _ hu)
    simp only [showVs, List.length_cons, List.length_append]
    omega
/-- As strings.Join puts them together. -/
theorem join_vs (v : Att) (vs : List Att) : Lib.join ((v :: vs).map showV) [44, 32] = showV v ++ showVs vs := by
  rw [List.map_cons, Lib.join_cons]
  congr 1
  induction vs with
  | nil => rfl
  | cons u r ih => simp [Lib.joinTail, showVs] at ih ⊢; exact ih
theorem join_parts (w : List UInt8) (p : Flt) (ps : List Flt) : Lib.join ((p :: ps).map showP) (32 :: (w ++ [32])) = showP p ++ showR w ps := by
  rw [List.map_cons, Lib.join_cons]
  congr 1
  induction ps with
  | nil => simp [Lib.joinTail, showR]
  | cons u r ih => simp [Lib.joinTail, showR] at ih ⊢; exact ih
theorem leaf_vals {k : Int} {n o : List UInt8} {vs : List Att} (h : leafB k n o vs = true) : n.length ≤ 20 ∧ (∀ v ∈ vs, valB v = true) ∧ vs.length ≤ 20 ∧ 0 < vs.length := by
  match vs, h with
  | v :: r, h =>
    unfold leafB at h
    simp only [Bool.and_eq_true, decide_eq_true_eq, List.all_eq_true] at h
    obtain ⟨⟨⟨⟨h1, h2⟩, h3⟩, h4⟩, _⟩ := h
    refine ⟨(name_short h1).1, fun u hu => ?_, by simp; omega, by simp⟩
    rcases List.mem_cons.1 hu with rfl | hu
    · exact h2
    · exact (h3 u hu).1
theorem op_len {o : List UInt8} (ho : opB o = true) : o.length ≤ 2 := by
  simp only [opB, Bool.or_eq_true, beq_iff_eq] at ho
  rcases ho with ((((rfl | rfl) | rfl) | rfl) | rfl) | rfl <;> simp
theorem showP_le (p : Flt) : (showP p).length ≤ (showF p).length + 2 := by
  cases p
  rw [showP]
  split
  · simp
  · omega
theorem show_len : ∀ (N : Nat) (f : Flt), sz f ≤ N → fine f = true → rng f → (showF f).length + 10 ≤ 5010 * sz f
  | 0, f, h, _, _ => by have := sz_pos f; omega
  | N + 1, .mk k n o vs l, h, hf, hr => by
    rw [sz] at h ⊢
    rw [Fl.rng] at hr
    have ih : ∀ p ∈ l, fine p = true → (showF p).length + 10 ≤ 5010 * sz p := fun p hp hfp => show_len N p (by have := sz_mem hp; omega) hfp (rng_mem hr.2 p hp)
    have hR : ∀ (w : List UInt8), w.length ≤ 3 → ∀ m : List Flt, (∀ p ∈ m, p ∈ l ∧ fine p = true) → (showR w m).length ≤ 5010 * szL m := by
      intro w hw m
      induction m with
      | nil => intro _; simp [showR, szL]
      | cons p r ihr =>
        intro hm
        have h1 := ih p (hm p (List.mem_cons_self ..)).1 (hm p (List.mem_cons_self ..)).2
        have h2 := ihr fun q hq => hm q (List.mem_cons_of_mem _ hq)
        have h3 := showP_le p
        simp only [showR, szL, List.length_cons, List.length_append]
        omega
    rw [fine] at hf
    by_cases h456 : k = 4 ∨ k = 5 ∨ k = 6
    · rw [if_pos h456, Bool.and_eq_true] at hf
      obtain ⟨h1, h2, h3, h4⟩ := leaf_vals hf.1
      have hv : ∀ v ∈ vs, valB v = true ∧ rngV v := fun v hv => ⟨h2 v hv, hr.1 v hv⟩
      have hl0 : l = [] := by simpa using hf.2
      subst hl0
      match vs, hf, h4, hv, h3 with
      | v :: r, hf, _, hv, h3 =>
        have e1 := showV_len (hv v (List.mem_cons_self ..)).1 (hv v (List.mem_cons_self ..)).2
        have e2 := showVs_len (vs := r) fun u hu => hv u (List.mem_cons_of_mem _ hu)
        simp only [List.length_cons] at h3
        have ho : k = 4 → o.length ≤ 2 := fun h4 => by
          have := hf.1
          unfold leafB at this
          subst h4
          simp at this
          exact op_len this.2.2
        rcases h456 with rfl | rfl | rfl
        · have := ho rfl
          simp [showF, showOne]
          omega
        · simp [showF, showOne, sPre]
          omega
        · simp [showF, wIn]
          omega
    · rw [if_neg h456] at hf
      simp only [Bool.and_eq_true] at hf
      obtain ⟨⟨⟨⟨hn, ho⟩, hv⟩, hk⟩, hL⟩ := hf
      have hfp : ∀ p ∈ l, fine p = true := fun p hp => (fine_mem hL p hp).1
      have hv0 : vs = [] := by simpa using hv
      subst hv0
      have hk4 : k = 7 ∨ k = 3 ∨ (k = 1 ∨ k = 2) := by
        by_cases h12 : k = 1 ∨ k = 2
        · omega
        rw [if_neg h12] at hk
        by_cases h3 : k = 3
        · omega
        rw [if_neg h3] at hk
        simp at hk
        omega
      rcases hk4 with rfl | rfl | h12
      · have hl0 : l = [] := by
          rw [if_neg (by omega), if_neg (by omega)] at hk
          simpa using hk
        subst hl0
        simp [showF, wTrue]; omega
      · match l, ih, hfp with
        | [], _, _ => simp [showF, showN, wNot]; omega
        | p :: r, ih, hfp =>
          have h1 := ih p (List.mem_cons_self ..) (hfp p (List.mem_cons_self ..))
          simp only [szL]
          by_cases h73 : p.kind = 7 ∨ p.kind = 3
          · simp [showF, showN, wNot, h73]; omega
          · simp [showF, showN, wNot, h73]; omega
      · match l, ih, hfp, hR with
        | [], _, _, _ => rcases h12 with rfl | rfl <;> simp [showF] <;> omega
        | p :: r, ih, hfp, hR =>
          have h1 := ih p (List.mem_cons_self ..) (hfp p (List.mem_cons_self ..))
          have h2 := hR (andOr k) (by unfold andOr; split <;> simp [wOr, wAnd]) r fun q hq => ⟨List.mem_cons_of_mem _ hq, hfp q (List.mem_cons_of_mem _ hq)⟩
          have h3 := showP_le p
          have e1 : showF (.mk k n o [] (p :: r)) = showP p ++ showR (andOr k) r := by rcases h12 with rfl | rfl <;> simp [showF]
          rw [e1, List.length_append]
          simp only [szL]
          omega
end Go.Proofs.YtjffnjiggcfhcaaGreatDoor.Fl
namespace Go.Proofs
open Go.Shelf
def Tryz.lays156_ren : Go.Shelf.Ren := ⟨fun | 156 => 48 | 165 => 69 | 166 => 70 | 169 => 71 | 240 => 91 | 241 => 92 | 276 => 109 | 277 => 110 | n => n, fun | 31 => 80 | 9 => 9 | 3 => 3 | 4 => 4 | 0 => 0 | 20 => 20 | 72 => 92 | 76 => 94 | 70 => 89 | 37 => 90 | 75 => 29 | 127 => 112 | 164 => 130 | 5 => 5 | 80 => 96 | n => n, fun | n => n⟩
theorem Tryz.lays156 : Go.Proofs.Lays.n156 Tryz.prog Tryz.lays156_ren := {
  mixed := by kernel_rfl
  f156 := Tryz.func48.trans (congrArg some (by kernel_rfl))
  f165 := Tryz.func69.trans (congrArg some (by kernel_rfl))
  f166 := Tryz.func70.trans (congrArg some (by kernel_rfl))
  f169 := Tryz.func71.trans (congrArg some (by kernel_rfl))
  f240 := Tryz.func91.trans (congrArg some (by kernel_rfl))
  f241 := Tryz.func92.trans (congrArg some (by kernel_rfl))
  f276 := Tryz.func109.trans (congrArg some (by kernel_rfl))
  f277 := Tryz.func110.trans (congrArg some (by kernel_rfl))
  t0 := Tryz.underlying0
  a0 := Tryz.isAgg0
  z0 := Tryz.sizeOf0
  v0 := Tryz.zeroValue0
  t3 := Tryz.underlying3
  a3 := Tryz.isAgg3
  z3 := Tryz.sizeOf3
  v3 := Tryz.zeroValue3
  t4 := Tryz.underlying4
  a4 := Tryz.isAgg4
  z4 := Tryz.sizeOf4
  v4 := Tryz.zeroValue4
  t9 := Tryz.underlying9
  a9 := Tryz.isAgg9
  z9 := Tryz.sizeOf9
  v9 := Tryz.zeroValue9
  t20 := Tryz.underlying20
  a20 := Tryz.isAgg20
  z20 := Tryz.sizeOf20
  v20 := Tryz.zeroValue20
  t31 := Tryz.underlying80
  a31 := Tryz.isAgg80
  z31 := Tryz.sizeOf80
  v31 := Tryz.zeroValue80
  t37 := Tryz.underlying90
  a37 := Tryz.isAgg90
  z37 := Tryz.sizeOf90
  v37 := Tryz.zeroValue90
  t70 := Tryz.underlying89
  a70 := Tryz.isAgg89
  z70 := Tryz.sizeOf89
  v70 := Tryz.zeroValue89
  t72 := Tryz.underlying92
  a72 := Tryz.isAgg92
  z72 := Tryz.sizeOf92
  v72 := Tryz.zeroValue92
  t75 := Tryz.underlying29
  a75 := Tryz.isAgg29
  z75 := Tryz.sizeOf29
  v75 := Tryz.zeroValue29
  t76 := Tryz.underlying94
  a76 := Tryz.isAgg94
  z76 := Tryz.sizeOf94
  v76 := Tryz.zeroValue94
  t127 := Tryz.underlying112
  a127 := Tryz.isAgg112
  z127 := Tryz.sizeOf112
  v127 := Tryz.zeroValue112
  t164 := Tryz.underlying130
  a164 := Tryz.isAgg130
  z164 := Tryz.sizeOf130
  v164 := Tryz.zeroValue130 }
theorem Tryz.Builder_Extra_156 : Builder.Extra Tryz.prog Tryz.lays156_ren := {
  sizeBuilder := by kernel_rfl
  liesBuilder := by kernel_rfl
  t5 := Tryz.underlying5
  a5 := Tryz.isAgg5
  z5 := Tryz.sizeOf5
  v5 := Tryz.zeroValue5
  infoByte := by kernel_rfl
  cellsByte := by kernel_rfl
  sizeByte := by kernel_rfl
  neB5 := by decide }
open Go.RowKit in
theorem Tryz.strings_Join_none (a : Option Addr) (c : Nat) (sep : ByteArray) (w : World) :
    Calls Tryz.prog 48 #[.slice a 0 c, .string sep] w fun e w' => e = .returned (.string ⟨#[]⟩) ∧ w' = w := Any.strings_Join_none Tryz.lays156 Tryz.Builder_Extra_156 a c sep w
open Go.RowKit in
theorem Tryz.strings_Join (bk o c : Nat) (xs : List ByteArray) (sep : ByteArray) (w : World) (hcells : ∀ (j : Nat) x, xs[j]? = some x → w.cell? ⟨bk, o + j, none⟩ = some (.string x)) (hbk : bk < w.heap.size) (hN : xs.length ≤ 140737488355328) (hcap : xs.length ≤ c) (hlen : (Lib.join (xs.map (·.data.toList)) sep.data.toList).length ≤ 140737488355328) :
    Calls Tryz.prog 48 #[.slice (some ⟨bk, o, none⟩) xs.length c, .string sep] w fun e w' => e = .returned (.string ⟨(Lib.join (xs.map (·.data.toList)) sep.data.toList).toArray⟩) ∧ Below w.heap.size w w' := Any.strings_Join Tryz.lays156 Tryz.Builder_Extra_156 bk o c xs sep w hcells hbk hN hcap hlen
def Tryz.laysM173_ren : Go.Shelf.Ren := ⟨fun | 173 => 36 | 246 => 53 | 283 => 75 | 284 => 76 | 285 => 77 | 286 => 78 | 129 => 96 | 317 => 95 | 318 => 97 | 319 => 98 | 320 => 99 | 337 => 111 | 338 => 112 | n => n, fun | 2 => 2 | 3 => 3 | 9 => 9 | 4 => 4 | 171 => 100 | 0 => 0 | 53 => 101 | 37 => 90 | 5 => 5 | 173 => 104 | 212 => 117 | 51 => 118 | 20 => 20 | 213 => 119 | 46 => 120 | 232 => 140 | 233 => 141 | n => n, fun | 17 => 0 | 18 => 2 | 19 => 3 | n => n⟩
theorem Tryz.laysM173 : Go.Proofs.LaysM.n173 Tryz.prog Tryz.laysM173_ren := {
  mixed := by kernel_rfl
  f129 := Tryz.func96.trans (congrArg some (by kernel_rfl))
  f173 := Tryz.func36.trans (congrArg some (by kernel_rfl))
  f246 := Tryz.func53.trans (congrArg some (by kernel_rfl))
  f283 := Tryz.func75.trans (congrArg some (by kernel_rfl))
  f284 := Tryz.func76.trans (congrArg some (by kernel_rfl))
  f285 := Tryz.func77.trans (congrArg some (by kernel_rfl))
  f286 := Tryz.func78.trans (congrArg some (by kernel_rfl))
  f317 := Tryz.func95.trans (congrArg some (by kernel_rfl))
  f318 := Tryz.func97.trans (congrArg some (by kernel_rfl))
  f319 := Tryz.func98.trans (congrArg some (by kernel_rfl))
  f320 := Tryz.func99.trans (congrArg some (by kernel_rfl))
  f337 := Tryz.func111.trans (congrArg some (by kernel_rfl))
  f338 := Tryz.func112.trans (congrArg some (by kernel_rfl))
  t0 := Tryz.underlying0
  a0 := Tryz.isAgg0
  z0 := Tryz.sizeOf0
  v0 := Tryz.zeroValue0
  t2 := Tryz.underlying2
  a2 := Tryz.isAgg2
  z2 := Tryz.sizeOf2
  v2 := Tryz.zeroValue2
  t3 := Tryz.underlying3
  a3 := Tryz.isAgg3
  z3 := Tryz.sizeOf3
  v3 := Tryz.zeroValue3
  t4 := Tryz.underlying4
  a4 := Tryz.isAgg4
  z4 := Tryz.sizeOf4
  v4 := Tryz.zeroValue4
  t5 := Tryz.underlying5
  a5 := Tryz.isAgg5
  z5 := Tryz.sizeOf5
  v5 := Tryz.zeroValue5
  t9 := Tryz.underlying9
  a9 := Tryz.isAgg9
  z9 := Tryz.sizeOf9
  v9 := Tryz.zeroValue9
  t20 := Tryz.underlying20
  a20 := Tryz.isAgg20
  z20 := Tryz.sizeOf20
  v20 := Tryz.zeroValue20
  t37 := Tryz.underlying90
  a37 := Tryz.isAgg90
  z37 := Tryz.sizeOf90
  v37 := Tryz.zeroValue90
  t46 := Tryz.underlying120
  a46 := Tryz.isAgg120
  z46 := Tryz.sizeOf120
  v46 := Tryz.zeroValue120
  t51 := Tryz.underlying118
  a51 := Tryz.isAgg118
  z51 := Tryz.sizeOf118
  v51 := Tryz.zeroValue118
  t53 := Tryz.underlying101
  a53 := Tryz.isAgg101
  z53 := Tryz.sizeOf101
  v53 := Tryz.zeroValue101
  t171 := Tryz.underlying100
  a171 := Tryz.isAgg100
  z171 := Tryz.sizeOf100
  v171 := Tryz.zeroValue100
  t173 := Tryz.underlying104
  a173 := Tryz.isAgg104
  z173 := Tryz.sizeOf104
  v173 := Tryz.zeroValue104
  t212 := Tryz.underlying117
  a212 := Tryz.isAgg117
  z212 := Tryz.sizeOf117
  v212 := Tryz.zeroValue117
  t213 := Tryz.underlying119
  a213 := Tryz.isAgg119
  z213 := Tryz.sizeOf119
  t232 := Tryz.underlying140
  a232 := Tryz.isAgg140
  z232 := Tryz.sizeOf140
  v232 := Tryz.zeroValue140
  t233 := Tryz.underlying141
  a233 := Tryz.isAgg141
  z233 := Tryz.sizeOf141
  v233 := Tryz.zeroValue141
  g17 := by kernel_rfl
  g18 := by kernel_rfl
  g19 := by kernel_rfl
  i0 := by kernel_rfl
  i2 := by kernel_rfl
  i3 := by kernel_rfl
  i4 := by kernel_rfl
  i5 := by kernel_rfl
  i9 := by kernel_rfl
  i20 := by kernel_rfl
  i37 := by kernel_rfl
  i46 := by kernel_rfl
  i51 := by kernel_rfl
  i53 := by kernel_rfl
  i171 := by kernel_rfl
  i173 := by kernel_rfl
  i212 := by kernel_rfl
  i232 := by kernel_rfl
  i233 := by kernel_rfl
  m17 := by kernel_rfl
  m18 := by kernel_rfl
  m19 := by kernel_rfl }
open Go.RowKit Go.Sort Go.Lib in
theorem Tryz.strconv_FormatInt_10 (n : Int) (h0 : -9223372036854775808 ≤ n) (h1 : n ≤ 9223372036854775807) (w : World) (htab : Lib.TabIs Tryz.prog w "internal/strconv.uint64pow10" .u64 Lib.pow10Tab) :
    Calls Tryz.prog 36 #[.int .i64 n, .int .i64 10] w fun e w' => e = .returned (.string ⟨(Lib.itoa n).toArray⟩) ∧ ∃ k os, w' = grow (w.drewN k) os := Any.strconv_FormatInt_10 Tryz.laysM173 n h0 h1 w htab
end Go.Proofs
