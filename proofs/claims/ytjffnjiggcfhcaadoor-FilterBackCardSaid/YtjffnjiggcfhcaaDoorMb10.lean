/-
  The library's functions that the code calls, each by what it answers (strings_Join, strings_Join_none, strconv_FormatInt_10): laid at this program by the shelf, without conditions of our own.
-/
import Derived.Test.YtjffnjiggcfhcaaDoorMb06
import Derived.Test.YtjffnjiggcfhcaaDoorMb08
import Derived.Test.YtjffnjiggcfhcaaDoorMb09
import Derived.Test.YtjffnjiggcfhcaaDoorMb05
import Derived.Test.YtjffnjiggcfhcaaDoorMb04
import Derived.Lib.ItoaLen
import Derived.Lib.JoinFns
import Derived.Shelf.Strings.Builder1
import Derived.Shelf.Strings.Builder2
import Derived.Shelf.Strings.OnBuilder
import Derived.Shelf.Small.Strs
import Derived.Shelf.Strconv.Itoa0
import Derived.Shelf.Strconv.Itoa1
import Derived.Shelf.LaysM
import Derived.Shelf.Strconv.Itoa2
import Derived.Shelf.Strconv.Itoa3
import Derived.Shelf.Strconv.Itoa4
import Derived.Shelf.Strconv.ParseIntEmpty
import Derived.Shelf.Strconv.Clone
import Derived.Shelf.Strconv.SyntaxError
import Derived.Shelf.LaysC
import Derived.Shelf.Strconv.ToError
import Derived.Shelf.Strconv.Lower
import Derived.Shelf.Strconv.ParseUint10
import Derived.Shelf.Strconv.ParseUint10Empty
import Derived.Shelf.Strconv.ParseUint10Any
import Derived.Shelf.Strconv.ParseInt10
import Derived.Shelf.Strconv.RangeError
import Derived.Shelf.Strconv.ToErrorRange
import Derived.Shelf.Strconv.ParseUintEmpty
import Derived.Shelf.Strconv.ParseUint10b64
import Derived.Shelf.Strconv.ParseUint10b32
import Derived.Shelf.Strconv.ParseUint10b16
import Derived.Shelf.Strconv.ParseUint10b8
import Derived.Shelf.Strconv.ParseUint10At
import Derived.Shelf.Strconv.ParseInt10At64
import Derived.Shelf.Strconv.ParseInt10At32
import Derived.Shelf.Strconv.ParseInt10At16
import Derived.Shelf.Strconv.ParseInt10At8
import Derived.Shelf.Strconv.ParseInt10All
import Derived.Shelf.Strconv.ParseIntPublic10
import Derived.Shelf.Strconv.ErrVarParseInt
import Derived.Shelf.Strings.Search1
import Derived.Shelf.Strings.Prefix
import Derived.Test.YtjffnjiggcfhcaaDoorProg
/-
  A reader of tokens in memory; contracts of take, next and value of package filter's reader. Memory that was there is left as it was, but for what the reader has left.
-/
namespace Go.Proofs.YtjffnjiggcfhcaaDoor.Fl
open Go.RowKit Go.Proofs.YtjffnjiggcfhcaaDoor.Tk
set_option linter.unusedVariables false
set_option linter.unusedSimpArgs false

/-- A good token. -/
def TG (t : Tok) : Prop := (t.kind = 2 → wordB t.str = true) ∧ (t.kind = 5 → signB t.str = true) ∧ (t.kind = 1 → nameB t.str = true) ∧ (t.kind = 4 → plainB t.str = true) ∧ -9223372036854775808 ≤ t.num ∧ t.num ≤ 9223372036854775807 ∧ t.str.length ≤ 500
theorem lex_kinds {l : List UInt8} {x : Lx} (h : lex l = some x) : (x.kind = 2 → wordB x.str = true) ∧ (x.kind = 5 → signB x.str = true) := by
  match l, h with
  | c :: r, h =>
    rw [lex_cons] at h
    split at h
    · unfold nameL at h
      split at h
      · have e := (Option.some.inj h).symm
        subst e
        refine ⟨fun hk => ?_, fun hk => ?_⟩
        · simp only at hk ⊢
          split at hk
          · assumption
          · omega
        · simp only at hk
          split at hk <;> omega
      · cases h
    · split at h
      · rw [numL_cons] at h
        split at h
        · split at h
          · cases h
          · have e := (Option.some.inj h).symm
            subst e
            exact ⟨fun hk => by simp at hk, fun hk => by simp at hk⟩
        · split at h
          · cases h
          · have e := (Option.some.inj h).symm
            subst e
            exact ⟨fun hk => by simp at hk, fun hk => by simp at hk⟩
      · split at h
        · unfold textL at h
          split at h
          · have e := (Option.some.inj h).symm
            subst e
            exact ⟨fun hk => by simp at hk, fun hk => by simp at hk⟩
          · cases h
        · unfold signL at h
          split at h
          · rename_i hs
            have e := (Option.some.inj h).symm
            subst e
            exact ⟨fun hk => by simp at hk, fun _ => hs.2⟩
          · split at h
            · rename_i hs
              have e := (Option.some.inj h).symm
              subst e
              exact ⟨fun hk => by simp at hk, fun _ => hs⟩
            · cases h
theorem cut_kinds : ∀ (n a : Nat) (l : List UInt8) (ts : List Tok), l.length ≤ n → cutAt a l = some ts → ∀ t ∈ ts, (t.kind = 2 → wordB t.str = true) ∧ (t.kind = 5 → signB t.str = true) ∧ t.str.length ≤ l.length
  | n, a, [], ts, _, h => by
    rw [cutAt_nil] at h
    cases h
    simp
  | 0, a, c :: r, ts, hn, _ => by simp at hn
  | n + 1, a, c :: r, ts, hn, h => by
    simp only [List.length_cons] at hn
    by_cases hc : c.toNat = 32
    · rw [cutAt_space hc] at h
      intro t ht
      have := cut_kinds n (a + 1) r ts (by omega) h t ht
      exact ⟨this.1, this.2.1, by have := this.2.2; simp only [List.length_cons]; omega⟩
    · cases hx : lex (c :: r) with
      | none => rw [cutAt_none hc a r hx] at h; cases h
      | some x =>
        have hz := lex_size hx
        rw [cutAt_some hc a r hx] at h
        obtain ⟨us, hu, rfl⟩ := Option.map_eq_some_iff.1 h
        have hl : ((c :: r).drop x.size).length = (c :: r).length - x.size := by simp
        intro t ht
        rcases List.mem_cons.1 ht with rfl | ht
        · exact ⟨(lex_kinds hx).1, (lex_kinds hx).2, lex_str hx⟩
        · have := cut_kinds n (a + x.size) _ us (by rw [hl]; simp only [List.length_cons]; omega) hu t ht
          exact ⟨this.1, this.2.1, by have := this.2.2; omega⟩
theorem cut_TG {l : List UInt8} {ts : List Tok} (hl : l.length ≤ 500) (h : cutAt 0 l = some ts) : ∀ t ∈ ts, TG t := by
  intro t ht
  have h1 := cut_kinds l.length 0 l ts (Nat.le_refl _) h t ht
  have h2 := cut_good l.length 0 l ts (Nat.le_refl _) h
  have h3 := h2.1 (core t) (List.mem_map_of_mem ht)
  have h4 := h2.2 (core t) (List.mem_map_of_mem ht)
  exact ⟨h1.1, h1.2.1, h3.1, h3.2, h4.1, h4.2, Nat.le_trans h1.2.2 hl⟩
/-- A slice that holds tokens. -/
def Toks (W : World) (S : Nat → Prop) (a : Option Addr) (ts : List Tok) : Prop :=
  0 < ts.length → ∃ g o, a = some ⟨g, o, none⟩ ∧ S g ∧ ∀ (k : Nat) (h : k < ts.length), W.cell? ⟨g, o + k * 4, none⟩ = some (.int .i64 ts[k].kind) ∧ W.cell? ⟨g, o + k * 4 + 1, none⟩ = some (.int .i64 (ts[k].pos : Nat)) ∧
    W.cell? ⟨g, o + k * 4 + 2, none⟩ = some (.int .i64 ts[k].num) ∧ W.cell? ⟨g, o + k * 4 + 3, none⟩ = some (bs ts[k].str)
theorem Toks.far {W V : World} {S T : Nat → Prop} {a : Option Addr} {ts : List Tok} (h : Toks W S a ts) (hS : ∀ g, S g → T g ∧ V.heap[g]? = W.heap[g]?) : Toks V T a ts := by
  intro h0
  obtain ⟨g, o, e, hg, hc⟩ := h h0
  have hq : ∀ x, V.cell? ⟨g, x, none⟩ = W.cell? ⟨g, x, none⟩ := fun x => World.cell?_of_block (w := W) (w' := V) (a := ⟨g, x, none⟩) (hS g hg).2
  exact ⟨g, o, e, (hS g hg).1, fun k hk => by simp only [hq]; exact hc k hk⟩
theorem Toks.tail {W : World} {S : Nat → Prop} {g o : Nat} {t : Tok} {r : List Tok} (h : Toks W S (some ⟨g, o, none⟩) (t :: r)) (cap : Nat) (hc : (t :: r).length ≤ cap) : Toks W S (if cap = 1 then some ⟨g, o, none⟩ else some ⟨g, o + 4, none⟩) r := by
  intro h0
  obtain ⟨g', o', e, hg, hcl⟩ := h (by simp)
  cases e
  have hc1 : ¬ cap = 1 := by simp only [List.length_cons] at hc; omega
  rw [if_neg hc1]
  refine ⟨g, o + 4, rfl, hg, fun k hk => ?_⟩
  have := hcl (k + 1) (by simpa using hk)
  simp only [List.getElem_cons_succ] at this
  rw [show o + (k + 1) * 4 = o + 4 + k * 4 by omega] at this
  exact this
/-- What a reader has left. -/
def RdAt (W : World) (p z : Nat) (ts : List Tok) : Prop :=
  ∃ a cap, W.cell? ⟨p, 0, none⟩ = some (.slice a ts.length cap) ∧ W.frozen? ⟨p, 0, none⟩ = false ∧ ts.length ≤ cap ∧ Toks W (Old z) a ts
theorem RdAt.lt {W : World} {p z : Nat} {ts : List Tok} (h : RdAt W p z ts) : p < W.heap.size := by
  obtain ⟨a, cap, hc, _⟩ := h
  exact World.block_lt_of_cell? W ⟨p, 0, none⟩ hc
/-- What leaves the reader's block, and the tokens', alone. -/
theorem RdAt.keep {W V : World} {p z : Nat} {ts : List Tok} (h : RdAt W p z ts) (hp : V.heap[p]? = W.heap[p]?) (hz : ∀ g, g < z → V.heap[g]? = W.heap[g]?) : RdAt V p z ts := by
  obtain ⟨a, cap, hc, hf, hl, ht⟩ := h
  exact ⟨a, cap, (World.cell?_of_block (w := W) (w' := V) (a := ⟨p, 0, none⟩) hp).trans hc, (World.frozen?_of_block (w := W) (w' := V) (a := ⟨p, 0, none⟩) hp).trans hf, hl, ht.far fun g hg => ⟨hg, hz g hg⟩⟩
theorem RdAt.later {W V : World} {p z : Nat} {ts : List Tok} (h : RdAt W p z ts) (hz : z ≤ p) (hb : Below W.heap.size W V) : RdAt V p z ts :=
  h.keep (hb.block p h.lt) fun g hg => hb.block g (by have := h.lt; omega)
theorem RdAt.alloc {W : World} {p z : Nat} {ts : List Tok} (h : RdAt W p z ts) (hz : z ≤ p) (o : Obj) : RdAt (W.alloc o) p z ts := h.later hz ((Below.refl _ _).alloc (Nat.le_refl _) o)
/-- A store into another block, from z on. -/
theorem RdAt.setCell {W : World} {p z q x : Nat} {ts : List Tok} (h : RdAt W p z ts) (hq : q ≠ p) (hz : z ≤ q) (v : Value) : RdAt (W.setCell ⟨q, x, none⟩ v) p z ts :=
  h.keep (Below.heap_setCell _ _ _ _ (fun e => hq e.symm)) fun g hg => Below.heap_setCell _ _ _ _ (by intro e; simp only at e; omega)
theorem bs_ne {s : ByteArray} {l : List UInt8} : ((⟨l.toArray⟩ : ByteArray) = s) ↔ l = s.data.toList := bytes_eq s l
theorem RdAt.set {w : World} {p z : Nat} {x : Value} {a : Option Addr} {cap : Nat} {r : List Tok} (hc : w.cell? ⟨p, 0, none⟩ = some x) (hf : w.frozen? ⟨p, 0, none⟩ = false) (hl : r.length ≤ cap) (ht : Toks w (Old z) a r) (hz : z ≤ p) : RdAt (w.setCell ⟨p, 0, none⟩ (.slice a r.length cap)) p z r :=
  ⟨a, cap, by simp [go_sem, hc], by simp [go_sem, hf], hl, ht.far fun g hg => ⟨hg, Below.heap_setCell _ _ _ _ (by have : g < z := hg; simp only; omega)⟩⟩
theorem RdAt.set_nil {w : World} {p z : Nat} {x : Value} (a : Option Addr) (hc : w.cell? ⟨p, 0, none⟩ = some x) (hf : w.frozen? ⟨p, 0, none⟩ = false) (hz : z ≤ p) : RdAt (w.setCell ⟨p, 0, none⟩ (.slice a 0 0)) p z [] :=
  RdAt.set (r := []) (a := a) (cap := 0) hc hf (Nat.le_refl _) (fun h => absurd h (Nat.lt_irrefl _)) hz
/-- What take tells. -/
def TakeEnd (s : List UInt8) (ts : List Tok) (p z : Nat) (w w' : World) (e : Ending) : Prop :=
  (takes s (ts.map core) = none ∧ e = .returned (.bool false) ∧ w = w') ∨ (∃ t r, ts = t :: r ∧ takes s (ts.map core) = some (r.map core) ∧ e = .returned (.bool true) ∧ w.grownBy w' (some p) ∧ RdAt w' p z r)
set_option maxHeartbeats 1000000 in
theorem take_any (s : ByteArray) (kd : Int) (hkd : ∀ t, TG t → ((t.kind = 2 ∨ t.kind = 5) ∧ t.str = s.data.toList ↔ t.kind = kd ∧ t.str = s.data.toList)) (ts : List Tok) (hg : ∀ t ∈ ts, TG t) (hl : ts.length ≤ 600) (p z : Nat) (hz : z ≤ p) (w : World) (hR : RdAt w p z ts) :
    Calls Tryd.prog 36 #[.pointer (some ⟨p, 0, none⟩), .int .i64 kd, .string s] w fun e w' => TakeEnd s.data.toList ts p z w w' e := by
  obtain ⟨a, cap, hc, hf, hcap, ht⟩ := hR
  cases ts with
  | nil =>
    simp only [List.length_nil] at hc
    have HN := Lib.hid (show TakeEnd s.data.toList [] p z w w (.returned (.bool false)) from Or.inl ⟨rfl, rfl, rfl⟩)
    clear ht hg hkd hl hcap
    go_enter Tryd.func36, Tryd.ntmps36
    go_wp2_with fail
    go_ret
    exact HN.out
  | cons t r =>
    obtain ⟨g, o, ha, hgz, hcl⟩ := ht (by simp)
    subst ha
    obtain ⟨c0, c1, c2, c3⟩ := hcl 0 (by simp)
    simp only [List.getElem_cons_zero, Nat.zero_mul, Nat.add_zero] at c0 c1 c2 c3
    have HT := Lib.hid ht
    obtain ⟨st, est, hst⟩ := bs_bytes t.str
    rw [est] at c3
    obtain ⟨k, hk⟩ : ∃ x, x = t.kind := ⟨_, rfl⟩
    rw [← hk] at c0
    have HK := Lib.hid (hkd t (hg t (List.mem_cons_self ..)))
    rw [← hk, ← hst] at HK
    have HTK := Lib.hid (show takes s.data.toList ((t :: r).map core) = if (k = 2 ∨ k = 5) ∧ st.data.toList = s.data.toList then some (r.map core) else none by rw [hk, hst]; rfl)
    have hn : (t :: r).length = r.length + 1 := rfl
    rw [hn] at hc hcap hl
    have hr600 : r.length ≤ 600 := by omega
    have hcap1 : 1 ≤ cap := by omega
    have HCAP := Lib.hid hcap
    have hnz : ¬ ((r.length : Int) + 1 = 0) := by omega
    have hnb : ((r.length : Int) + 1 == 0) = false := by rw [beq_eq_false_iff_ne]; exact hnz
    have hnb2 : (((r.length + 1 : Nat) : Int) == 0) = false := by rw [beq_eq_false_iff_ne]; omega
    have hpos : (0 : Int) < ((r.length + 1 : Nat) : Int) := by omega
    have HGZ := Lib.hid hgz
    have hgp : ¬ g = p := by have : g < z := hgz; omega
    clear ht hg hkd est hst hcl c1 c2 hgz hcap
    by_cases h1 : k = kd
    · by_cases h2 : st = s
      · have HY := Lib.hid (show takes s.data.toList ((t :: r).map core) = some (r.map core) by rw [HTK.out, if_pos (HK.out.2 ⟨h1, by rw [h2]⟩)])
        clear HK HTK
        subst h1
        subst h2
        by_cases h3 : cap = 1
        · obtain rfl : r = [] := List.eq_nil_of_length_eq_zero (by have := HCAP.out; omega)
          have HRD := Lib.hid (show RdAt (w.setCell ⟨p, 0, none⟩ (.slice (some ⟨g, o, none⟩) 0 0)) p z [] from RdAt.set_nil _ hc hf hz)
          subst h3
          go_enter Tryd.func36, Tryd.ntmps36
          go_wp2_with fail
          go_ret
          exact Or.inr ⟨t, [], rfl, HY.out, rfl, gr_set (gr_refl _ _) _, HRD.out⟩
        · have HRD := Lib.hid (show RdAt (w.setCell ⟨p, 0, none⟩ (.slice (some ⟨g, o + 4, none⟩) r.length (cap - 1))) p z r from RdAt.set hc hf (by have := HCAP.out; omega) (by have := HT.out.tail cap HCAP.out; rwa [if_neg h3] at this) hz)
          go_enter Tryd.func36, Tryd.ntmps36
          go_wp2_with fail
          go_ret
          exact Or.inr ⟨t, r, rfl, HY.out, rfl, gr_set (gr_refl _ _) _, HRD.out⟩
      · have h2l := ne_bytes h2
        have h2b : (st.toList == s.toList) = false := by rw [beq_eq_false_iff_ne]; exact h2l
        have HNO := Lib.hid (show takes s.data.toList ((t :: r).map core) = none by rw [HTK.out, if_neg (fun h => h2 (by have := h.2; obtain ⟨⟨x⟩⟩ := st; obtain ⟨⟨y⟩⟩ := s; simpa using this))])
        clear HK HTK
        subst h1
        go_enter Tryd.func36, Tryd.ntmps36
        go_wp2_with fail
        go_ret
        exact Or.inl ⟨HNO.out, rfl, rfl⟩
    · have h1b : (k == kd) = false := by rw [beq_eq_false_iff_ne]; exact h1
      have HNO := Lib.hid (show takes s.data.toList ((t :: r).map core) = none by rw [HTK.out, if_neg (fun h => h1 (HK.out.1 h).1)])
      clear HK HTK
      go_enter Tryd.func36, Tryd.ntmps36
      go_wp2_with fail
      go_ret
      exact Or.inl ⟨HNO.out, rfl, rfl⟩
/-- A word, a sign is taken as one. -/
theorem word_kd {s : List UInt8} (h1 : wordB s = true) (h2 : signB s = false) (t : Tok) (h : TG t) : (t.kind = 2 ∨ t.kind = 5) ∧ t.str = s ↔ t.kind = 2 ∧ t.str = s := by
  constructor
  · rintro ⟨hk | hk, hs⟩
    · exact ⟨hk, hs⟩
    · have := h.2.1 hk
      rw [hs, h2] at this
      cases this
  · exact fun ⟨hk, hs⟩ => ⟨Or.inl hk, hs⟩
theorem sign_kd {s : List UInt8} (h1 : wordB s = false) (h2 : signB s = true) (t : Tok) (h : TG t) : (t.kind = 2 ∨ t.kind = 5) ∧ t.str = s ↔ t.kind = 5 ∧ t.str = s := by
  constructor
  · rintro ⟨hk | hk, hs⟩
    · have := h.1 hk
      rw [hs, h1] at this
      cases this
    · exact ⟨hk, hs⟩
  · exact fun ⟨hk, hs⟩ => ⟨Or.inr hk, hs⟩
/-- What next tells. -/
def NextEnd (ts : List Tok) (p z : Nat) (w w' : World) (e : Ending) : Prop :=
  w.grownBy w' (some p) ∧ ((ts = [] ∧ e = .returned (.agg #[.int .i64 0, .int .i64 0, .int .i64 0, .string ⟨#[]⟩]) ∧ RdAt w' p z []) ∨
    (∃ t r, ts = t :: r ∧ e = .returned (.agg #[.int .i64 t.kind, .int .i64 (t.pos : Nat), .int .i64 t.num, bs t.str]) ∧ RdAt w' p z r))
theorem set4' {V : World} {p q z : Nat} {ts : List Tok} (h : RdAt V p z ts) (hq : q ≠ p) (hz : z ≤ q) (x y u v : Value) : RdAt ((((V.setCell ⟨q, 0, none⟩ x).setCell ⟨q, 1, none⟩ y).setCell ⟨q, 2, none⟩ u).setCell ⟨q, 3, none⟩ v) p z ts :=
  (((h.setCell hq hz x).setCell hq hz y).setCell hq hz u).setCell hq hz v
theorem gr_new {w V : World} {r : Option Nat} {q x : Nat} (h : w.grownBy V r) (hq : w.heap.size ≤ q) (v : Value) : w.grownBy (V.setCell ⟨q, x, none⟩ v) r :=
  ⟨h.os, h.tape, h.output, by have := h.size; simpa [World.setCell] using this, fun k hk hne => (Below.heap_setCell _ _ _ _ (by simp only; omega)).trans (h.block k hk hne)⟩
set_option maxHeartbeats 1000000 in
theorem next_any (ts : List Tok) (hl : ts.length ≤ 600) (p z : Nat) (hz : z ≤ p) (w : World) (hR : RdAt w p z ts) :
    Calls Tryd.prog 70 #[.pointer (some ⟨p, 0, none⟩)] w fun e w' => NextEnd ts p z w w' e := by
  have HR0 := Lib.hid hR
  have hp : p < w.heap.size := hR.lt
  have hpne : ¬ p = w.heap.size := by omega
  obtain ⟨a, cap, hc, hf, hcap, ht⟩ := hR
  cases ts with
  | nil =>
    simp only [List.length_nil] at hc
    clear ht hl hcap
    go_enter Tryd.func70, Tryd.ntmps70
    go_wp2_with fail
    refine bodyPost_ret (v := .agg #[.int .i64 0, .int .i64 0, .int .i64 0, .string ⟨#[]⟩]) (by simp [results, Tryd.results70, go_sem, *]) rfl ?_
    exact ⟨gr_alloc (gr_refl _ _) _, Or.inl ⟨rfl, rfl, HR0.out.alloc hz _⟩⟩
  | cons t r =>
    obtain ⟨g, o, ha, hgz, hcl⟩ := ht (by simp)
    subst ha
    obtain ⟨c0, c1, c2, c3⟩ := hcl 0 (by simp)
    simp only [List.getElem_cons_zero, Nat.zero_mul, Nat.add_zero] at c0 c1 c2 c3
    have HT := Lib.hid ht
    obtain ⟨st, est, hst⟩ := bs_bytes t.str
    rw [est] at c3
    obtain ⟨k, hk⟩ : ∃ x, x = t.kind := ⟨_, rfl⟩
    obtain ⟨ps, hps⟩ : ∃ x, x = t.pos := ⟨_, rfl⟩
    obtain ⟨nm, hnm⟩ : ∃ x, x = t.num := ⟨_, rfl⟩
    rw [← hk] at c0
    rw [← hps] at c1
    rw [← hnm] at c2
    have HV := Lib.hid (show Value.agg #[.int .i64 t.kind, .int .i64 (t.pos : Nat), .int .i64 t.num, bs t.str] = .agg #[.int .i64 k, .int .i64 (ps : Nat), .int .i64 nm, .string st] by rw [hk, hps, hnm, est])
    have hn : (t :: r).length = r.length + 1 := rfl
    rw [hn] at hc hcap hl
    have hr600 : r.length ≤ 600 := by omega
    have hcap1 : 1 ≤ cap := by omega
    have HCAP := Lib.hid hcap
    have hnz : ¬ ((r.length : Int) + 1 = 0) := by omega
    have hnb : ((r.length : Int) + 1 == 0) = false := by rw [beq_eq_false_iff_ne]; exact hnz
    have hpos : (0 : Int) < ((r.length + 1 : Nat) : Int) := by omega
    have hgz2 : g < z := hgz
    have hgp : ¬ g = p := by omega
    have hgw : g < w.heap.size := by omega
    have hgne : ¬ g = w.heap.size := by omega
    clear ht est hst hcl hk hps hnm hgz hcap
    by_cases h3 : cap = 1
    · obtain rfl : r = [] := List.eq_nil_of_length_eq_zero (by have := HCAP.out; omega)
      have HRD := Lib.hid (show RdAt (w.setCell ⟨p, 0, none⟩ (.slice (some ⟨g, o, none⟩) 0 0)) p z [] from RdAt.set_nil _ hc hf hz)
      subst h3
      go_enter Tryd.func70, Tryd.ntmps70
      go_wp2_with fail
      refine bodyPost_ret (v := .agg #[.int .i64 k, .int .i64 (ps : Nat), .int .i64 nm, .string st]) (by simp [results, Tryd.results70, go_sem, *]) rfl ?_
      exact ⟨gr_alloc (gr_alloc (gr_set (gr_refl _ _) _) _) _, Or.inr ⟨t, [], rfl, by rw [HV.out], (HRD.out.alloc hz _).alloc hz _⟩⟩
    · have HRD := Lib.hid (show RdAt (w.setCell ⟨p, 0, none⟩ (.slice (some ⟨g, o + 4, none⟩) r.length (cap - 1))) p z r from RdAt.set hc hf (by have := HCAP.out; omega) (by have := HT.out.tail cap HCAP.out; rwa [if_neg h3] at this) hz)
      go_enter Tryd.func70, Tryd.ntmps70
      go_wp2_with fail
      refine bodyPost_ret (v := .agg #[.int .i64 k, .int .i64 (ps : Nat), .int .i64 nm, .string st]) (by simp [results, Tryd.results70, go_sem, *]) rfl ?_
      exact ⟨gr_alloc (gr_alloc (gr_set (gr_refl _ _) _) _) _, Or.inr ⟨t, r, rfl, by rw [HV.out], (HRD.out.alloc hz _).alloc hz _⟩⟩
end Go.Proofs.YtjffnjiggcfhcaaDoor.Fl
/-
  Contract of value of package filter's reader. Memory that was there is left as it was, but for what the reader has left.
-/
namespace Go.Proofs.YtjffnjiggcfhcaaDoor.Fl
open Go.RowKit Go.Proofs.YtjffnjiggcfhcaaDoor.Tk
set_option linter.unusedVariables false
set_option linter.unusedSimpArgs false

/-- What value tells. -/
def ValEnd (ts : List Tok) (p z : Nat) (w w' : World) (e : Ending) : Prop :=
  w.grownBy w' (some p) ∧ ((valP (ts.map core) = none ∧ e = .returned (.tuple #[.agg #[bs [], .bool false, .int .i64 0, bs []], .bool false]) ∧ ∃ r, RdAt w' p z r) ∨
    (∃ t r v, ts = t :: r ∧ valP (ts.map core) = some (v, r.map core) ∧ e = .returned (.tuple #[.agg #[bs v.name, .bool v.text, .int .i64 v.num, bs v.str], .bool true]) ∧ RdAt w' p z r))
set_option maxHeartbeats 1000000 in
theorem value_any (ts : List Tok) (hl : ts.length ≤ 600) (p z : Nat) (hz : z ≤ p) (w : World) (hR : RdAt w p z ts) :
    Calls Tryd.prog 71 #[.pointer (some ⟨p, 0, none⟩)] w fun e w' => ValEnd ts p z w w' e := by
  have hp : p < w.heap.size := hR.lt
  obtain ⟨w1, hw1⟩ : ∃ v, v = w.alloc (.cells #[.string ⟨#[]⟩, .bool false, .int .i64 0, .string ⟨#[]⟩] 49) := ⟨_, rfl⟩
  have HW := Lib.hid hw1
  have G1 := Lib.hid (show w.grownBy w1 (some p) by rw [hw1]; exact gr_alloc (gr_refl _ _) _)
  have CN := Lib.hid (next_any ts hl p z hz w1 (by rw [hw1]; exact hR.alloc hz _))
  have X1 := Lib.hid (show Blk w1 w.heap.size (.string ⟨#[]⟩) (.bool false) (.int .i64 0) (.string ⟨#[]⟩) by rw [hw1]; exact Blk.new ..)
  have HP := Lib.hid hp
  clear hw1 hR hl
  go_enter Tryd.func71, Tryd.ntmps71
  go_wp2_with fail
  rw [← HW.out]
  refine Calls.mono CN.out ?_
  rintro e w2 ⟨hg, h⟩
  have HG2 := Lib.hid hg
  have X2 := Lib.hid (show Blk w2 w.heap.size (.string ⟨#[]⟩) (.bool false) (.int .i64 0) (.string ⟨#[]⟩) from by
    obtain ⟨h0, h1, h2, h3, hf, hlt⟩ := X1.out
    have hb := hg.block w.heap.size hlt (by intro e; cases e; have := HP.out; omega)
    have hq : ∀ x, w2.cell? ⟨w.heap.size, x, none⟩ = w1.cell? ⟨w.heap.size, x, none⟩ := fun x => World.cell?_of_block (w := w1) (w' := w2) (a := ⟨w.heap.size, x, none⟩) hb
    exact ⟨(hq _).trans h0, (hq _).trans h1, (hq _).trans h2, (hq _).trans h3, fun o => (World.frozen?_of_block (w := w1) (w' := w2) (a := ⟨w.heap.size, o, none⟩) hb).trans (hf o), Nat.lt_of_lt_of_le hlt hg.size⟩)
  obtain ⟨x0, x1, x2, x3, xf, xl⟩ := X2.out
  have hqp : ¬ w.heap.size = p := by omega
  clear hg
  rcases h with ⟨hts, rfl, hr⟩ | ⟨t, r, hts, rfl, hr⟩
  · have HR2 := Lib.hid hr
    have HN := Lib.hid (show valP (ts.map core) = none by rw [hts]; rfl)
    clear hr
    go_wp2_with fail
    refine bodyPost_ret (v := .tuple #[.agg #[.string ⟨#[]⟩, .bool false, .int .i64 0, .string ⟨#[]⟩], .bool false]) (by simp [results, Tryd.results71, go_sem, *]) rfl ?_
    exact ⟨gr_alloc (gr_new (gr_new (gr_new (gr_new (G1.out.trans HG2.out) (Nat.le_refl _) _) (Nat.le_refl _) _) (Nat.le_refl _) _) (Nat.le_refl _) _) _, Or.inl ⟨HN.out, rfl, [], (set4' HR2.out hqp (by omega) _ _ _ _).alloc hz _⟩⟩
  · have HR2 := Lib.hid hr
    have HN := Lib.hid (show valP (ts.map core) = if t.kind = 4 then some (⟨[], true, 0, t.str⟩, r.map core) else if t.kind = 3 then some (⟨[], false, t.num, []⟩, r.map core) else none by rw [hts]; rfl)
    obtain ⟨st, est, hst⟩ := bs_bytes t.str
    obtain ⟨k, hk⟩ : ∃ x, x = t.kind := ⟨_, rfl⟩
    obtain ⟨ps, hps⟩ : ∃ x, x = t.pos := ⟨_, rfl⟩
    obtain ⟨nm, hnm⟩ : ∃ x, x = t.num := ⟨_, rfl⟩
    rw [← hk, ← hps, ← hnm, est]
    rw [← hk] at HN
    have HST := Lib.hid (And.intro est (And.intro hnm hts))
    clear hr hts est hst hk hps hnm
    by_cases h3 : k = 3
    · have HN2 := Lib.hid (show valP (ts.map core) = some (⟨[], false, t.num, []⟩, r.map core) by rw [HN.out, if_neg (by omega), if_pos h3])
      subst h3
      go_wp2_with fail
      refine bodyPost_ret (v := .tuple #[.agg #[.string ⟨#[]⟩, .bool false, .int .i64 nm, .string ⟨#[]⟩], .bool true]) (by simp [results, Tryd.results71, go_sem, *]) rfl ?_
      exact ⟨gr_alloc (gr_new (gr_new (gr_new (gr_new (G1.out.trans HG2.out) (Nat.le_refl _) _) (Nat.le_refl _) _) (Nat.le_refl _) _) (Nat.le_refl _) _) _, Or.inr ⟨t, r, _, HST.out.2.2, HN2.out, by rw [← HST.out.2.1]; rfl, (set4' HR2.out hqp (by omega) _ _ _ _).alloc hz _⟩⟩
    by_cases h4 : k = 4
    · have HN2 := Lib.hid (show valP (ts.map core) = some (⟨[], true, 0, t.str⟩, r.map core) by rw [HN.out, if_pos h4])
      subst h4
      go_wp2_with fail
      refine bodyPost_ret (v := .tuple #[.agg #[.string ⟨#[]⟩, .bool true, .int .i64 0, .string st], .bool true]) (by simp [results, Tryd.results71, go_sem, *]) rfl ?_
      exact ⟨gr_alloc (gr_new (gr_new (gr_new (gr_new (G1.out.trans HG2.out) (Nat.le_refl _) _) (Nat.le_refl _) _) (Nat.le_refl _) _) (Nat.le_refl _) _) _, Or.inr ⟨t, r, _, HST.out.2.2, HN2.out, by rw [← HST.out.1]; rfl, (set4' HR2.out hqp (by omega) _ _ _ _).alloc hz _⟩⟩
    · have HN2 := Lib.hid (show valP (ts.map core) = none by rw [HN.out, if_neg h4, if_neg h3])
      go_wp2_with fail
      refine bodyPost_ret (v := .tuple #[.agg #[.string ⟨#[]⟩, .bool false, .int .i64 0, .string ⟨#[]⟩], .bool false]) (by simp [results, Tryd.results71, go_sem, *]) rfl ?_
      exact ⟨gr_alloc (gr_new (gr_new (gr_new (gr_new (G1.out.trans HG2.out) (Nat.le_refl _) _) (Nat.le_refl _) _) (Nat.le_refl _) _) (Nat.le_refl _) _) _, Or.inl ⟨HN2.out, rfl, r, (set4' HR2.out hqp (by omega) _ _ _ _).alloc hz _⟩⟩
end Go.Proofs.YtjffnjiggcfhcaaDoor.Fl
/-
  How long filters' texts are; texts put together. No function of the program here.
-/
namespace Go.Proofs.YtjffnjiggcfhcaaDoor.Fl
open Go.RowKit Go.Proofs.YtjffnjiggcfhcaaDoor.Tk
set_option linter.unusedVariables false
set_option linter.unusedSimpArgs false

theorem app_list (s t : ByteArray) : (s ++ t).data.toList = s.data.toList ++ t.data.toList := by simp
theorem bs_of {s : ByteArray} {l : List UInt8} (h : s.data.toList = l) : s = ⟨l.toArray⟩ := by rw [← h]
theorem showV_len {v : Att} (h : valB v = true) (hr : rngV v) : (showV v).length ≤ 202 := by
  unfold showV
  cases ht : v.text
  · simp only [Bool.false_eq_true, if_false]
    have := Lib.itoa_length_le v.num hr.1 hr.2
    omega
  · simp only [if_true]
    unfold valB at h
    rw [ht] at h
    simp only [if_true, Bool.and_eq_true] at h
    have h9 := h.2.2
    rw [plainB_eq, Bool.and_eq_true, decide_eq_true_eq] at h9
    simp
    omega
theorem showVs_len : ∀ {vs : List Att}, (∀ v ∈ vs, valB v = true ∧ rngV v) → (showVs vs).length ≤ 204 * vs.length
  | [], _ => by simp [showVs]
  | v :: r, h => by
    have h1 := showV_len (h v (List.mem_cons_self ..)).1 (h v (List.mem_cons_self ..)).2
    have h2 := showVs_len (vs := r) fun u hu => h u (List.mem_cons_of_mem _ hu)
    simp only [showVs, List.length_cons, List.length_append]
    omega
/-- As strings.Join puts them together. -/
theorem join_vs (v : Att) (vs : List Att) : Lib.join ((v :: vs).map showV) [44, 32] = showV v ++ showVs vs := by
  rw [List.map_cons, Lib.join_cons]
  congr 1
  induction vs with
  | nil => rfl
  | cons u r ih => simp [Lib.joinTail, showVs] at ih ⊢; exact ih
theorem join_parts (w : List UInt8) (p : Flt) (ps : List Flt) : Lib.join ((p :: ps).map showP) (32 :: (w ++ [32])) = showP p ++ showR w ps := by
  rw [List.map_cons, Lib.join_cons]
  congr 1
  induction ps with
  | nil => simp [Lib.joinTail, showR]
  | cons u r ih => simp [Lib.joinTail, showR] at ih ⊢; exact ih
theorem leaf_vals {k : Int} {n o : List UInt8} {vs : List Att} (h : leafB k n o vs = true) : n.length ≤ 20 ∧ (∀ v ∈ vs, valB v = true) ∧ vs.length ≤ 20 ∧ 0 < vs.length := by
  match vs, h with
  | v :: r, h =>
    unfold leafB at h
    simp only [Bool.and_eq_true, decide_eq_true_eq, List.all_eq_true] at h
    obtain ⟨⟨⟨⟨h1, h2⟩, h3⟩, h4⟩, _⟩ := h
    refine ⟨(name_short h1).1, fun u hu => ?_, by simp; omega, by simp⟩
    rcases List.mem_cons.1 hu with rfl | hu
    · exact h2
    · exact (h3 u hu).1
theorem op_len {o : List UInt8} (ho : opB o = true) : o.length ≤ 2 := by
  simp only [opB, Bool.or_eq_true, beq_iff_eq] at ho
  rcases ho with ((((rfl | rfl) | rfl) | rfl) | rfl) | rfl <;> simp
theorem showP_le (p : Flt) : (showP p).length ≤ (showF p).length + 2 := by
  cases p
  rw [showP]
  split
  · simp
  · omega
theorem show_len : ∀ (N : Nat) (f : Flt), sz f ≤ N → fine f = true → rng f → (showF f).length + 10 ≤ 5010 * sz f
  | 0, f, h, _, _ => by have := sz_pos f; omega
  | N + 1, .mk k n o vs l, h, hf, hr => by
    rw [sz] at h ⊢
    rw [Fl.rng] at hr
    have ih : ∀ p ∈ l, fine p = true → (showF p).length + 10 ≤ 5010 * sz p := fun p hp hfp => show_len N p (by have := sz_mem hp; omega) hfp (rng_mem hr.2 p hp)
    have hR : ∀ (w : List UInt8), w.length ≤ 3 → ∀ m : List Flt, (∀ p ∈ m, p ∈ l ∧ fine p = true) → (showR w m).length ≤ 5010 * szL m := by
      intro w hw m
      induction m with
      | nil => intro _; simp [showR, szL]
      | cons p r ihr =>
        intro hm
        have h1 := ih p (hm p (List.mem_cons_self ..)).1 (hm p (List.mem_cons_self ..)).2
        have h2 := ihr fun q hq => hm q (List.mem_cons_of_mem _ hq)
        have h3 := showP_le p
        simp only [showR, szL, List.length_cons, List.length_append]
        omega
    rw [fine] at hf
    by_cases h456 : k = 4 ∨ k = 5 ∨ k = 6
    · rw [if_pos h456, Bool.and_eq_true] at hf
      obtain ⟨h1, h2, h3, h4⟩ := leaf_vals hf.1
      have hv : ∀ v ∈ vs, valB v = true ∧ rngV v := fun v hv => ⟨h2 v hv, hr.1 v hv⟩
      have hl0 : l = [] := by simpa using hf.2
      subst hl0
      match vs, hf, h4, hv, h3 with
      | v :: r, hf, _, hv, h3 =>
        have e1 := showV_len (hv v (List.mem_cons_self ..)).1 (hv v (List.mem_cons_self ..)).2
        have e2 := showVs_len (vs := r) fun u hu => hv u (List.mem_cons_of_mem _ hu)
        simp only [List.length_cons] at h3
        have ho : k = 4 → o.length ≤ 2 := fun h4 => by
          have := hf.1
          unfold leafB at this
          subst h4
          simp at this
          exact op_len this.2.2
        rcases h456 with rfl | rfl | rfl
        · have := ho rfl
          simp [showF, showOne]
          omega
        · simp [showF, showOne, sPre]
          omega
        · simp [showF, wIn]
          omega
    · rw [if_neg h456] at hf
      simp only [Bool.and_eq_true] at hf
      obtain ⟨⟨⟨⟨hn, ho⟩, hv⟩, hk⟩, hL⟩ := hf
      have hfp : ∀ p ∈ l, fine p = true := fun p hp => (fine_mem hL p hp).1
      have hv0 : vs = [] := by simpa using hv
      subst hv0
      have hk4 : k = 7 ∨ k = 3 ∨ (k = 1 ∨ k = 2) := by
        by_cases h12 : k = 1 ∨ k = 2
        · omega
        rw [if_neg h12] at hk
        by_cases h3 : k = 3
        · omega
        rw [if_neg h3] at hk
        simp at hk
        omega
      rcases hk4 with rfl | rfl | h12
      · have hl0 : l = [] := by
          rw [if_neg (by omega), if_neg (by omega)] at hk
          simpa using hk
        subst hl0
        simp [showF, wTrue]; omega
      · match l, ih, hfp with
        | [], _, _ => simp [showF, showN, wNot]; omega
        | p :: r, ih, hfp =>
          have h1 := ih p (List.mem_cons_self ..) (hfp p (List.mem_cons_self ..))
          simp only [szL]
          by_cases h73 : p.kind = 7 ∨ p.kind = 3
          · simp [showF, showN, wNot, h73]; omega
          · simp [showF, showN, wNot, h73]; omega
      · match l, ih, hfp, hR with
        | [], _, _, _ => rcases h12 with rfl | rfl <;> simp [showF] <;> omega
        | p :: r, ih, hfp, hR =>
          have h1 := ih p (List.mem_cons_self ..) (hfp p (List.mem_cons_self ..))
          have h2 := hR (andOr k) (by unfold andOr; split <;> simp [wOr, wAnd]) r fun q hq => ⟨List.mem_cons_of_mem _ hq, hfp q (List.mem_cons_of_mem _ hq)⟩
          have h3 := showP_le p
          have e1 : showF (.mk k n o [] (p :: r)) = showP p ++ showR (andOr k) r := by rcases h12 with rfl | rfl <;> simp [showF]
          rw [e1, List.length_append]
          simp only [szL]
          omega
end Go.Proofs.YtjffnjiggcfhcaaDoor.Fl
namespace Go.Proofs
open Go.Shelf
def Tryd.lays156_ren : Go.Shelf.Ren := ⟨fun | 156 => 27 | 165 => 43 | 166 => 44 | 169 => 45 | 240 => 60 | 241 => 61 | 276 => 75 | 277 => 76 | n => n, fun | 31 => 64 | 9 => 9 | 3 => 3 | 4 => 4 | 0 => 0 | 20 => 20 | 72 => 75 | 76 => 77 | 70 => 72 | 37 => 73 | 75 => 29 | 127 => 86 | 164 => 103 | 5 => 5 | 80 => 79 | n => n, fun | n => n⟩
theorem Tryd.lays156 : Go.Proofs.Lays.n156 Tryd.prog Tryd.lays156_ren := {
  mixed := by kernel_rfl
  f156 := Tryd.func27.trans (congrArg some (by kernel_rfl))
  f165 := Tryd.func43.trans (congrArg some (by kernel_rfl))
  f166 := Tryd.func44.trans (congrArg some (by kernel_rfl))
  f169 := Tryd.func45.trans (congrArg some (by kernel_rfl))
  f240 := Tryd.func60.trans (congrArg some (by kernel_rfl))
  f241 := Tryd.func61.trans (congrArg some (by kernel_rfl))
  f276 := Tryd.func75.trans (congrArg some (by kernel_rfl))
  f277 := Tryd.func76.trans (congrArg some (by kernel_rfl))
  t0 := Tryd.underlying0
  a0 := Tryd.isAgg0
  z0 := Tryd.sizeOf0
  v0 := Tryd.zeroValue0
  t3 := Tryd.underlying3
  a3 := Tryd.isAgg3
  z3 := Tryd.sizeOf3
  v3 := Tryd.zeroValue3
  t4 := Tryd.underlying4
  a4 := Tryd.isAgg4
  z4 := Tryd.sizeOf4
  v4 := Tryd.zeroValue4
  t9 := Tryd.underlying9
  a9 := Tryd.isAgg9
  z9 := Tryd.sizeOf9
  v9 := Tryd.zeroValue9
  t20 := Tryd.underlying20
  a20 := Tryd.isAgg20
  z20 := Tryd.sizeOf20
  v20 := Tryd.zeroValue20
  t31 := Tryd.underlying64
  a31 := Tryd.isAgg64
  z31 := Tryd.sizeOf64
  v31 := Tryd.zeroValue64
  t37 := Tryd.underlying73
  a37 := Tryd.isAgg73
  z37 := Tryd.sizeOf73
  v37 := Tryd.zeroValue73
  t70 := Tryd.underlying72
  a70 := Tryd.isAgg72
  z70 := Tryd.sizeOf72
  v70 := Tryd.zeroValue72
  t72 := Tryd.underlying75
  a72 := Tryd.isAgg75
  z72 := Tryd.sizeOf75
  v72 := Tryd.zeroValue75
  t75 := Tryd.underlying29
  a75 := Tryd.isAgg29
  z75 := Tryd.sizeOf29
  v75 := Tryd.zeroValue29
  t76 := Tryd.underlying77
  a76 := Tryd.isAgg77
  z76 := Tryd.sizeOf77
  v76 := Tryd.zeroValue77
  t127 := Tryd.underlying86
  a127 := Tryd.isAgg86
  z127 := Tryd.sizeOf86
  v127 := Tryd.zeroValue86
  t164 := Tryd.underlying103
  a164 := Tryd.isAgg103
  z164 := Tryd.sizeOf103
  v164 := Tryd.zeroValue103 }
theorem Tryd.Builder_Extra_156 : Builder.Extra Tryd.prog Tryd.lays156_ren := {
  sizeBuilder := by kernel_rfl
  liesBuilder := by kernel_rfl
  t5 := Tryd.underlying5
  a5 := Tryd.isAgg5
  z5 := Tryd.sizeOf5
  v5 := Tryd.zeroValue5
  infoByte := by kernel_rfl
  cellsByte := by kernel_rfl
  sizeByte := by kernel_rfl
  neB5 := by decide }
open Go.RowKit in
theorem Tryd.strings_Join_none (a : Option Addr) (c : Nat) (sep : ByteArray) (w : World) :
    Calls Tryd.prog 27 #[.slice a 0 c, .string sep] w fun e w' => e = .returned (.string ⟨#[]⟩) ∧ w' = w := Any.strings_Join_none Tryd.lays156 Tryd.Builder_Extra_156 a c sep w
open Go.RowKit in
theorem Tryd.strings_Join (bk o c : Nat) (xs : List ByteArray) (sep : ByteArray) (w : World) (hcells : ∀ (j : Nat) x, xs[j]? = some x → w.cell? ⟨bk, o + j, none⟩ = some (.string x)) (hbk : bk < w.heap.size) (hN : xs.length ≤ 140737488355328) (hcap : xs.length ≤ c) (hlen : (Lib.join (xs.map (·.data.toList)) sep.data.toList).length ≤ 140737488355328) :
    Calls Tryd.prog 27 #[.slice (some ⟨bk, o, none⟩) xs.length c, .string sep] w fun e w' => e = .returned (.string ⟨(Lib.join (xs.map (·.data.toList)) sep.data.toList).toArray⟩) ∧ Below w.heap.size w w' := Any.strings_Join Tryd.lays156 Tryd.Builder_Extra_156 bk o c xs sep w hcells hbk hN hcap hlen
def Tryd.laysM173_ren : Go.Shelf.Ren := ⟨fun | 173 => 28 | 246 => 46 | 283 => 62 | 284 => 63 | 285 => 64 | 286 => 65 | 129 => 78 | 317 => 77 | 318 => 79 | 319 => 80 | 320 => 81 | 337 => 88 | 338 => 89 | n => n, fun | 2 => 2 | 3 => 3 | 9 => 9 | 4 => 4 | 171 => 90 | 0 => 0 | 53 => 91 | 37 => 73 | 5 => 5 | 173 => 94 | 212 => 108 | 51 => 109 | 20 => 20 | 213 => 110 | 46 => 111 | 232 => 124 | 233 => 125 | n => n, fun | 17 => 0 | 18 => 4 | 19 => 5 | n => n⟩
theorem Tryd.laysM173 : Go.Proofs.LaysM.n173 Tryd.prog Tryd.laysM173_ren := {
  mixed := by kernel_rfl
  f129 := Tryd.func78.trans (congrArg some (by kernel_rfl))
  f173 := Tryd.func28.trans (congrArg some (by kernel_rfl))
  f246 := Tryd.func46.trans (congrArg some (by kernel_rfl))
  f283 := Tryd.func62.trans (congrArg some (by kernel_rfl))
  f284 := Tryd.func63.trans (congrArg some (by kernel_rfl))
  f285 := Tryd.func64.trans (congrArg some (by kernel_rfl))
  f286 := Tryd.func65.trans (congrArg some (by kernel_rfl))
  f317 := Tryd.func77.trans (congrArg some (by kernel_rfl))
  f318 := Tryd.func79.trans (congrArg some (by kernel_rfl))
  f319 := Tryd.func80.trans (congrArg some (by kernel_rfl))
  f320 := Tryd.func81.trans (congrArg some (by kernel_rfl))
  f337 := Tryd.func88.trans (congrArg some (by kernel_rfl))
  f338 := Tryd.func89.trans (congrArg some (by kernel_rfl))
  t0 := Tryd.underlying0
  a0 := Tryd.isAgg0
  z0 := Tryd.sizeOf0
  v0 := Tryd.zeroValue0
  t2 := Tryd.underlying2
  a2 := Tryd.isAgg2
  z2 := Tryd.sizeOf2
  v2 := Tryd.zeroValue2
  t3 := Tryd.underlying3
  a3 := Tryd.isAgg3
  z3 := Tryd.sizeOf3
  v3 := Tryd.zeroValue3
  t4 := Tryd.underlying4
  a4 := Tryd.isAgg4
  z4 := Tryd.sizeOf4
  v4 := Tryd.zeroValue4
  t5 := Tryd.underlying5
  a5 := Tryd.isAgg5
  z5 := Tryd.sizeOf5
  v5 := Tryd.zeroValue5
  t9 := Tryd.underlying9
  a9 := Tryd.isAgg9
  z9 := Tryd.sizeOf9
  v9 := Tryd.zeroValue9
  t20 := Tryd.underlying20
  a20 := Tryd.isAgg20
  z20 := Tryd.sizeOf20
  v20 := Tryd.zeroValue20
  t37 := Tryd.underlying73
  a37 := Tryd.isAgg73
  z37 := Tryd.sizeOf73
  v37 := Tryd.zeroValue73
  t46 := Tryd.underlying111
  a46 := Tryd.isAgg111
  z46 := Tryd.sizeOf111
  v46 := Tryd.zeroValue111
  t51 := Tryd.underlying109
  a51 := Tryd.isAgg109
  z51 := Tryd.sizeOf109
  v51 := Tryd.zeroValue109
  t53 := Tryd.underlying91
  a53 := Tryd.isAgg91
  z53 := Tryd.sizeOf91
  v53 := Tryd.zeroValue91
  t171 := Tryd.underlying90
  a171 := Tryd.isAgg90
  z171 := Tryd.sizeOf90
  v171 := Tryd.zeroValue90
  t173 := Tryd.underlying94
  a173 := Tryd.isAgg94
  z173 := Tryd.sizeOf94
  v173 := Tryd.zeroValue94
  t212 := Tryd.underlying108
  a212 := Tryd.isAgg108
  z212 := Tryd.sizeOf108
  v212 := Tryd.zeroValue108
  t213 := Tryd.underlying110
  a213 := Tryd.isAgg110
  z213 := Tryd.sizeOf110
  t232 := Tryd.underlying124
  a232 := Tryd.isAgg124
  z232 := Tryd.sizeOf124
  v232 := Tryd.zeroValue124
  t233 := Tryd.underlying125
  a233 := Tryd.isAgg125
  z233 := Tryd.sizeOf125
  v233 := Tryd.zeroValue125
  g17 := by kernel_rfl
  g18 := by kernel_rfl
  g19 := by kernel_rfl
  i0 := by kernel_rfl
  i2 := by kernel_rfl
  i3 := by kernel_rfl
  i4 := by kernel_rfl
  i5 := by kernel_rfl
  i9 := by kernel_rfl
  i20 := by kernel_rfl
  i37 := by kernel_rfl
  i46 := by kernel_rfl
  i51 := by kernel_rfl
  i53 := by kernel_rfl
  i171 := by kernel_rfl
  i173 := by kernel_rfl
  i212 := by kernel_rfl
  i232 := by kernel_rfl
  i233 := by kernel_rfl
  m17 := by kernel_rfl
  m18 := by kernel_rfl
  m19 := by kernel_rfl }
open Go.RowKit Go.Sort Go.Lib in
theorem Tryd.strconv_FormatInt_10 (n : Int) (h0 : -9223372036854775808 ≤ n) (h1 : n ≤ 9223372036854775807) (w : World) (htab : Lib.TabIs Tryd.prog w "internal/strconv.uint64pow10" .u64 Lib.pow10Tab) :
    Calls Tryd.prog 28 #[.int .i64 n, .int .i64 10] w fun e w' => e = .returned (.string ⟨(Lib.itoa n).toArray⟩) ∧ ∃ k os, w' = grow (w.drewN k) os := Any.strconv_FormatInt_10 Tryd.laysM173 n h0 h1 w htab
end Go.Proofs
