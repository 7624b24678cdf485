/-
  Plain facts on filters: the text of a filter is read as it, and what is read has such a text, with any fuel above the number of tokens. No program here.
-/
import Derived.Test.YtjffnjiggcfhcaaDoorMb08
import Derived.BigQuiet
import Derived.Test.YtjffnjiggcfhcaaDoorMb03
/-
  Contracts of Same of package filter, of slices.Equal and slices.EqualFunc as it calls them: are two filters the same? To any depth. Memory that was there is left as it was.
-/
namespace Go.Proofs.YtjffnjiggcfhcaaDoor.Fl
open Go.RowKit
set_option linter.unusedVariables false
set_option linter.unusedSimpArgs false

def eqL {α : Type} (p : α → α → Bool) : List α → List α → Bool
  | [], [] => true
  | u :: r, v :: s => p u v && eqL p r s
  | _, _ => false
theorem eqL_len {α : Type} {p : α → α → Bool} : ∀ {l m : List α}, l.length ≠ m.length → eqL p l m = false
  | [], [], h => absurd rfl h
  | [], _ :: _, _ => rfl
  | _ :: _, [], _ => rfl
  | u :: r, v :: s, h => by rw [eqL, eqL_len (by simpa using h), Bool.and_false]
theorem eqL_no {α : Type} {p : α → α → Bool} : ∀ {l m : List α} {k : Nat} {u v : α}, l[k]? = some u → m[k]? = some v → p u v = false → eqL p l m = false
  | [], _, k, u, v, h, _, _ => by simp at h
  | _ :: _, [], k, u, v, _, h, _ => by simp at h
  | a :: r, b :: s, 0, u, v, h1, h2, h => by
    simp at h1 h2
    rw [eqL, h1, h2, h, Bool.false_and]
  | a :: r, b :: s, k + 1, u, v, h1, h2, h => by rw [eqL, eqL_no (k := k) (by simpa using h1) (by simpa using h2) h, Bool.and_false]
theorem eqL_yes {α : Type} {p : α → α → Bool} : ∀ {l m : List α}, l.length = m.length → (∀ (k : Nat) (u v : α), k < l.length → l[k]? = some u → m[k]? = some v → p u v = true) → eqL p l m = true
  | [], [], _, _ => rfl
  | [], _ :: _, h, _ => by simp at h
  | _ :: _, [], h, _ => by simp at h
  | u :: r, v :: s, h, g => by
    rw [eqL, g 0 u v (by simp) (by simp) (by simp), Bool.true_and]
    exact eqL_yes (by simpa using h) fun k a b hk ha hb => g (k + 1) a b (by simpa using hk) (by simpa using ha) (by simpa using hb)
theorem eqL_more {α : Type} {p : α → α → Bool} {l m : List α} {k : Nat} {u v : α} (h : ∀ (i : Nat) (u v : α), i < k → l[i]? = some u → m[i]? = some v → p u v = true) (hu : l[k]? = some u) (hv : m[k]? = some v) (hp : p u v = true) :
    ∀ (i : Nat) (u v : α), i < k + 1 → l[i]? = some u → m[i]? = some v → p u v = true := by
  intro i a b hi ha hb
  by_cases e : i = k
  · subst e
    rw [hu] at ha
    rw [hv] at hb
    cases ha
    cases hb
    exact hp
  · exact h i a b (by omega) ha hb
def attEq (u v : Att) : Bool := u.name == v.name && u.text == v.text && u.num == v.num && u.str == v.str
def attsEq (l m : List Att) : Bool := eqL attEq l m
mutual
def sameB : Flt → Flt → Bool
  | .mk k n o vs ps, g => k == g.kind && n == g.name && o == g.op && attsEq vs g.vals && sameL ps g.parts
def sameL : List Flt → List Flt → Bool
  | [], [] => true
  | p :: r, q :: s => sameB p q && sameL r s
  | _, _ => false
end
theorem sameL_eq : ∀ l m : List Flt, sameL l m = eqL sameB l m
  | [], [] => by rw [sameL, eqL]
  | [], _ :: _ => by rw [sameL, eqL] <;> simp
  | _ :: _, [] => by rw [sameL, eqL] <;> simp
  | p :: r, q :: s => by rw [sameL, eqL, sameL_eq r s]
theorem neq_att (s1 : ByteArray) (t1 : Bool) (n1 : Int) (r1 s2 : ByteArray) (t2 : Bool) (n2 : Int) (r2 : ByteArray) (w : World) :
    (binOp .neq 49 (.agg #[.string s1, .bool t1, .int .i64 n1, .string r1]) (.agg #[.string s2, .bool t2, .int .i64 n2, .string r2])).run Tryd.prog w = .ok (.bool (!(s1.toList == s2.toList && t1 == t2 && n1 == n2 && r1.toList == r2.toList))) w := by
  simp [go_sem]
  by_cases h1 : s1.toList = s2.toList <;> by_cases h2 : t1 = t2 <;> by_cases h3 : n1 = n2 <;> by_cases h4 : r1.toList = r2.toList <;> simp [h1, h2, h3, h4]
theorem att_eq {u v : Att} {s1 r1 s2 r2 : ByteArray} (h1 : s1.data.toList = u.name) (h2 : r1.data.toList = u.str) (h3 : s2.data.toList = v.name) (h4 : r2.data.toList = v.str) : (s1.toList == s2.toList && u.text == v.text && u.num == v.num && r1.toList == r2.toList) = attEq u v := by
  rw [Lib.toList_data, Lib.toList_data, Lib.toList_data, Lib.toList_data, h1, h2, h3, h4, attEq]
def EqR {α : Type} (p : α → α → Bool) (l m : List α) (w : World) (vi : Value) (wr : World) : Prop :=
  ∃ k : Nat, k ≤ l.length ∧ vi = .int .i64 k ∧ Hid (∀ (i : Nat) (u v : α), i < k → l[i]? = some u → m[i]? = some v → p u v = true) ∧ Below w.heap.size w wr

set_option maxHeartbeats 1000000 in
set_option maxRecDepth 100000 in
theorem equal_any (us vs : List Att) (a b : Option Addr) (c d : Nat) (w : World) (hA : AttsAt w (Old w.heap.size) a us) (hB : AttsAt w (Old w.heap.size) b vs) :
    Calls Tryd.prog 14 #[.slice a us.length c, .slice b vs.length d] w fun e w' => e = .returned (.bool (attsEq us vs)) ∧ Below w.heap.size w w' := by
  have HA := Lib.hid hA
  have HB := Lib.hid hB
  obtain ⟨n, hn⟩ : ∃ n, n = us.length := ⟨_, rfl⟩
  have hm : n ≤ 9223372036854775807 := by have := hA.1; unfold maxLen at this; omega
  obtain ⟨res, hres⟩ : ∃ x, x = attsEq us vs := ⟨_, rfl⟩
  have HR := Lib.hid hres
  rw [← hres]
  by_cases hl : us.length = vs.length
  · have HN := Lib.hid hn
    have HN2 := Lib.hid (hn.trans hl)
    rw [← hl, ← hn]
    clear hl hn hA hB hres
    go_enter Tryd.func14, Tryd.ntmps14
    go_wp2_with fail
    go_loopw [13] (fun vi wr => EqR attEq us vs w vi wr) (fun vi _ => n - (intOf vi).toNat)
    case atStart => exact ⟨0, Nat.zero_le _, rfl, Lib.hid (fun i u v h => absurd h (Nat.not_lt_zero _)), Below.refl _ _⟩
    case round =>
      obtain ⟨k, hk, rfl, hall, hBB⟩ := hrel
      have HK := Lib.hid hk
      have HBB := Lib.hid hBB
      clear hk hBB
      by_cases hlt : k < n
      · have hlz : (k : Int) < (n : Int) := by omega
        have hku : k < us.length := by rw [← HN.out]; exact hlt
        have hkv : k < vs.length := by rw [← HN2.out]; exact hlt
        obtain ⟨g, o, hg, _, hc⟩ := (HA.out.later HBB.out).2.2 (by omega)
        obtain ⟨g2, o2, hg2, _, hc2⟩ := (HB.out.later HBB.out).2.2 (by omega)
        obtain ⟨c0, c1, c2, c3⟩ := hc k hku
        obtain ⟨d0, d1, d2, d3⟩ := hc2 k hkv
        obtain ⟨U, hU⟩ : ∃ V, V = us[k] := ⟨_, rfl⟩
        obtain ⟨V, hV⟩ : ∃ V, V = vs[k] := ⟨_, rfl⟩
        rw [← hU] at c0 c1 c2 c3
        rw [← hV] at d0 d1 d2 d3
        obtain ⟨s1, e1, f1⟩ := bs_bytes U.name
        obtain ⟨r1, e2, f2⟩ := bs_bytes U.str
        obtain ⟨s2, e3, f3⟩ := bs_bytes V.name
        obtain ⟨r2, e4, f4⟩ := bs_bytes V.str
        have HEQ := att_eq f1 f2 f3 f4
        obtain ⟨t1, ht1⟩ : ∃ x, x = U.text := ⟨_, rfl⟩
        obtain ⟨n1, hn1⟩ : ∃ x, x = U.num := ⟨_, rfl⟩
        obtain ⟨t2, ht2⟩ : ∃ x, x = V.text := ⟨_, rfl⟩
        obtain ⟨n2, hn2⟩ : ∃ x, x = V.num := ⟨_, rfl⟩
        rw [e1] at c0
        rw [← ht1] at c1 HEQ
        rw [← hn1] at c2 HEQ
        rw [e2] at c3
        rw [e3] at d0
        rw [← ht2] at d1 HEQ
        rw [← hn2] at d2 HEQ
        rw [e4] at d3
        have q := neq_att s1 t1 n1 r1 s2 t2 n2 r2
        obtain ⟨eq, heq⟩ : ∃ x, x = (s1.toList == s2.toList && t1 == t2 && n1 == n2 && r1.toList == r2.toList) := ⟨_, rfl⟩
        rw [← heq] at q HEQ
        have HE := Lib.hid HEQ
        have HUK := Lib.hid (show us[k]? = some U by rw [hU]; exact List.getElem?_eq_getElem hku)
        have HVK := Lib.hid (show vs[k]? = some V by rw [hV]; exact List.getElem?_eq_getElem hkv)
        subst hg
        subst hg2
        clear hc hc2 hU hV e1 e2 e3 e4 f1 f2 f3 f4 HEQ ht1 hn1 ht2 hn2 heq
        cases eq
        · have HF := Lib.hid (show res = false by rw [HR.out]; exact eqL_no HUK.out HVK.out HE.out.symm)
          go_wp2_with fail
          go_region
          all_goals
            go_wp2_with fail
            go_ret
            exact ⟨by rw [HF.out]; rfl, HBB.out.drew⟩
        · have HF := Lib.hid (eqL_more hall.out HUK.out HVK.out HE.out.symm)
          go_wp2_with fail
          go_region
          all_goals
            go_wp2_with fail
            go_roundw
            case rel => exact ⟨k + 1, by omega, by go_num, HF, HBB.out.drew⟩
            case measure => simp [intOf]; omega
      · have hlz : ¬ (k : Int) < (n : Int) := by omega
        have HF := Lib.hid (show res = true by
          rw [HR.out]
          exact eqL_yes (HN.out.symm.trans HN2.out) fun i u v hi => hall.out i u v (by have := HN.out; omega))
        go_wp2_with fail
        go_ret
        exact ⟨by rw [HF.out]; rfl, HBB.out⟩
  · have HF := Lib.hid (show res = false by rw [hres]; exact eqL_len hl)
    have hlz : ¬ (us.length : Int) = (vs.length : Int) := by omega
    clear hA hB hres hn
    go_enter Tryd.func14, Tryd.ntmps14
    go_wp2_with fail
    go_ret
    exact ⟨by rw [HF.out]; rfl, Below.refl _ _⟩

def SameOk (f : Flt) : Prop := ∀ (g : Flt) (a : Option Addr) (c : Nat) (b : Option Addr) (d : Nat) (a' : Option Addr) (c' : Nat) (b' : Option Addr) (d' : Nat) (w : World), FltAt w (Old w.heap.size) f a b → FltAt w (Old w.heap.size) g a' b' →
  Calls Tryd.prog 8 #[.agg #[.int .i64 f.kind, bs f.name, bs f.op, .slice a f.vals.length c, .slice b f.parts.length d], .agg #[.int .i64 g.kind, bs g.name, bs g.op, .slice a' g.vals.length c', .slice b' g.parts.length d']] w fun e w' => e = .returned (.bool (sameB f g)) ∧ Below w.heap.size w w'
set_option maxHeartbeats 2000000 in
set_option maxRecDepth 100000 in
theorem equalFunc_any (ps qs : List Flt) (ih : ∀ q ∈ ps, SameOk q) (a b : Option Addr) (c d : Nat) (w : World) (hl1 : ps.length ≤ 9223372036854775807) (hA : PartsAt w (Old w.heap.size) a 0 ps) (hB : PartsAt w (Old w.heap.size) b 0 qs) :
    Calls Tryd.prog 15 #[.slice a ps.length c, .slice b qs.length d, .func (.func 8) #[] #[]] w fun e w' => e = .returned (.bool (sameL ps qs)) ∧ Below w.heap.size w w' := by
  have HA := Lib.hid hA
  have HB := Lib.hid hB
  have IH := Lib.hid ih
  rw [sameL_eq]
  obtain ⟨n, hn⟩ : ∃ n, n = ps.length := ⟨_, rfl⟩
  have hm : n ≤ 9223372036854775807 := by omega
  obtain ⟨res, hres⟩ : ∃ x, x = eqL sameB ps qs := ⟨_, rfl⟩
  have HR := Lib.hid hres
  rw [← hres]
  by_cases hl : ps.length = qs.length
  · have HN := Lib.hid hn
    have HN2 := Lib.hid (hn.trans hl)
    rw [← hl, ← hn]
    clear hl hn hA hB hres ih hl1
    go_enter Tryd.func15, Tryd.ntmps15
    go_wp2_with fail
    go_loopw [17] (fun vi wr => EqR sameB ps qs w vi wr) (fun vi _ => n - (intOf vi).toNat)
    case atStart => exact ⟨0, Nat.zero_le _, rfl, Lib.hid (fun i u v h => absurd h (Nat.not_lt_zero _)), Below.refl _ _⟩
    case round =>
      obtain ⟨k, hk, rfl, hall, hBB⟩ := hrel
      have HK := Lib.hid hk
      have HBB := Lib.hid hBB
      clear hk hBB
      by_cases hlt : k < n
      · have hlz : (k : Int) < (n : Int) := by omega
        have hku : k < ps.length := by rw [← HN.out]; exact hlt
        have hkv : k < qs.length := by rw [← HN2.out]; exact hlt
        obtain ⟨g, o, a1, c1, b1, d1, hg, hgl, h5, hf⟩ := (HA.out.later HBB.out).get k hku
        obtain ⟨g2, o2, a2, c2, b2, d2, hg2, hgl2, h52, hf2⟩ := (HB.out.later HBB.out).get k hkv
        obtain ⟨U, hU⟩ : ∃ V, V = ps[k] := ⟨_, rfl⟩
        obtain ⟨V, hV⟩ : ∃ V, V = qs[k] := ⟨_, rfl⟩
        rw [← hU] at h5 hf
        rw [← hV] at h52 hf2
        have HUK := Lib.hid (show ps[k]? = some U by rw [hU]; exact List.getElem?_eq_getElem hku)
        have HVK := Lib.hid (show qs[k]? = some V by rw [hV]; exact List.getElem?_eq_getElem hkv)
        have CI := Lib.hid (fun W h1 h2 => IH.out U (List.mem_of_getElem? HUK.out) V a1 c1 b1 d1 a2 c2 b2 d2 W h1 h2)
        obtain ⟨eq, heq⟩ : ∃ x, x = sameB U V := ⟨_, rfl⟩
        rw [← heq] at CI
        have HE := Lib.hid heq
        have HF1 := Lib.hid hf
        have HF2 := Lib.hid hf2
        have hgw : g < wr.heap.size := Nat.lt_of_lt_of_le hgl HBB.out.size
        have hgw2 : g2 < wr.heap.size := Nat.lt_of_lt_of_le hgl2 HBB.out.size
        subst hg
        subst hg2
        clear hU hV hf hf2 hgl hgl2 heq
        obtain ⟨e0, e1, e2, e3, e4⟩ := h5
        rw [Nat.zero_add] at e0 e1 e2 e3 e4
        obtain ⟨un, hun, _⟩ := bs_bytes U.name
        obtain ⟨uo, huo, _⟩ := bs_bytes U.op
        rw [hun] at e1 CI
        rw [huo] at e2 CI
        obtain ⟨uk, huk⟩ : ∃ x, x = U.kind := ⟨_, rfl⟩
        obtain ⟨ul, hul⟩ : ∃ x, x = U.vals.length := ⟨_, rfl⟩
        obtain ⟨up, hup⟩ : ∃ x, x = U.parts.length := ⟨_, rfl⟩
        rw [← huk] at e0 CI
        rw [← hul] at e3 CI
        rw [← hup] at e4 CI
        clear hun huo huk hul hup
        obtain ⟨x0, x1, x2, x3, x4⟩ := h52
        rw [Nat.zero_add] at x0 x1 x2 x3 x4
        obtain ⟨vn, hvn, _⟩ := bs_bytes V.name
        obtain ⟨vo, hvo, _⟩ := bs_bytes V.op
        rw [hvn] at x1 CI
        rw [hvo] at x2 CI
        obtain ⟨vk, hvk⟩ : ∃ x, x = V.kind := ⟨_, rfl⟩
        obtain ⟨vl, hvl⟩ : ∃ x, x = V.vals.length := ⟨_, rfl⟩
        obtain ⟨vp, hvp⟩ : ∃ x, x = V.parts.length := ⟨_, rfl⟩
        rw [← hvk] at x0 CI
        rw [← hvl] at x3 CI
        rw [← hvp] at x4 CI
        clear hvn hvo hvk hvl hvp
        have WA := Lib.hid (show ∀ W, Below w.heap.size wr W → FltAt W (Old W.heap.size) U a1 b1 ∧ FltAt W (Old W.heap.size) V a2 b2 from fun W hW =>
          ⟨(HF1.out.later hW).wide (Nat.le_trans HBB.out.size hW.size), (HF2.out.later hW).wide (Nat.le_trans HBB.out.size hW.size)⟩)
        have WB := Lib.hid (show ∀ o1 o2, Below w.heap.size wr ((wr.alloc o1).alloc o2) from fun o1 o2 => ((Below.refl _ _).alloc HBB.out.size _).alloc (Nat.le_trans HBB.out.size (by simp)) _)
        cases eq
        · have HF := Lib.hid (show res = false by rw [HR.out]; exact eqL_no HUK.out HVK.out HE.out.symm)
          go_wp2_with (go_at_call 8; refine Calls.mono (CI.out _ (WA.out _ (WB.out _ _)).1 (WA.out _ (WB.out _ _)).2) ?_; rintro e w1 ⟨rfl, hb⟩; have HB1 := Lib.hid ((HBB.out.trans (WB.out _ _)).trans (hb.mono (Nat.le_trans HBB.out.size (WB.out _ _).size))); clear hb)
          go_ret
          exact ⟨by rw [HF.out]; rfl, HB1.out⟩
        · have HF := Lib.hid (eqL_more hall.out HUK.out HVK.out HE.out.symm)
          go_wp2_with (go_at_call 8; refine Calls.mono (CI.out _ (WA.out _ (WB.out _ _)).1 (WA.out _ (WB.out _ _)).2) ?_; rintro e w1 ⟨rfl, hb⟩; have HB1 := Lib.hid ((HBB.out.trans (WB.out _ _)).trans (hb.mono (Nat.le_trans HBB.out.size (WB.out _ _).size))); clear hb)
          go_roundw
          case rel => exact ⟨k + 1, by omega, by go_num, HF, HB1.out⟩
          case measure => simp [intOf]; omega
      · have hlz : ¬ (k : Int) < (n : Int) := by omega
        have HF := Lib.hid (show res = true by
          rw [HR.out]
          exact eqL_yes (HN.out.symm.trans HN2.out) fun i u v hi => hall.out i u v (by have := HN.out; omega))
        go_wp2_with fail
        go_ret
        exact ⟨by rw [HF.out]; rfl, HBB.out⟩
  · have HF := Lib.hid (show res = false by rw [hres]; exact eqL_len hl)
    have hlz : ¬ (ps.length : Int) = (qs.length : Int) := by omega
    clear hA hB hres hn ih
    go_enter Tryd.func15, Tryd.ntmps15
    go_wp2_with fail
    go_ret
    exact ⟨by rw [HF.out]; rfl, Below.refl _ _⟩
end Go.Proofs.YtjffnjiggcfhcaaDoor.Fl
/-
  Contract of Same of package filter: are two filters the same? To any depth. Memory that was there is left as it was.
-/
namespace Go.Proofs.YtjffnjiggcfhcaaDoor.Fl
open Go.RowKit
set_option linter.unusedVariables false
set_option linter.unusedSimpArgs false

theorem beq_bytes (s r : ByteArray) : (s.toList == r.toList) = decide (s = r) := by
  by_cases h : s = r
  · rw [decide_eq_true h, h]; simp
  · rw [decide_eq_false h, beq_eq_false_iff_ne]
    intro e
    rw [Lib.toList_data, Lib.toList_data] at e
    exact h (by obtain ⟨⟨a⟩⟩ := s; obtain ⟨⟨b⟩⟩ := r; simpa using e)
theorem ne_bytes {s r : ByteArray} (h : ¬ s = r) : ¬ s.toList = r.toList := by
  have := beq_bytes s r
  rw [decide_eq_false h, beq_eq_false_iff_ne] at this
  exact this
theorem bs_inj {s : ByteArray} {l : List UInt8} (h : s.data.toList = l) : s = ⟨l.toArray⟩ := by rw [← h]
set_option maxHeartbeats 4000000 in
set_option maxRecDepth 100000 in
theorem same_ok (f : Flt) (ih : ∀ q ∈ f.parts, SameOk q) : SameOk f := by
  obtain ⟨k, nm, o, vs, ps⟩ := f
  rintro ⟨k2, nm2, o2, vs2, ps2⟩ a c b d a' c' b' d' w hF hG
  simp only [Flt.kind, Flt.name, Flt.op, Flt.vals, Flt.parts] at ih ⊢
  have hlen : ps.length ≤ 9223372036854775807 := by have := hF.small.2.2.2.2; simp only [Flt.parts] at this; unfold maxLen at this; omega
  obtain ⟨sn, en, hsn⟩ := bs_bytes nm
  obtain ⟨so, eo, hso⟩ := bs_bytes o
  obtain ⟨sn2, en2, hsn2⟩ := bs_bytes nm2
  obtain ⟨so2, eo2, hso2⟩ := bs_bytes o2
  rw [en, eo, en2, eo2]
  have CE := Lib.hid (fun W h1 h2 => equal_any vs vs2 a a' c c' W h1 h2)
  have CF := Lib.hid (fun W h1 h2 => equalFunc_any ps ps2 ih b b' d d' W hlen h1 h2)
  have HA1 := Lib.hid hF.atts
  have HA2 := Lib.hid hG.atts
  have HP1 := Lib.hid hF.parts
  have HP2 := Lib.hid hG.parts
  simp only [Flt.vals] at HA1 HA2
  simp only [Flt.parts] at HP1 HP2
  have hv0 : sameB (.mk k nm o vs ps) (.mk k2 nm2 o2 vs2 ps2) = (decide (k = k2) && decide (sn = sn2) && decide (so = so2) && attsEq vs vs2 && sameL ps ps2) := by
    rw [sameB]
    simp only [Flt.kind, Flt.name, Flt.op, Flt.vals, Flt.parts]
    rw [← beq_bytes sn sn2, ← beq_bytes so so2, Lib.toList_data, Lib.toList_data, Lib.toList_data, Lib.toList_data, hsn, hsn2, hso, hso2]
    rfl
  obtain ⟨res, hres⟩ : ∃ x, x = sameB (.mk k nm o vs ps) (.mk k2 nm2 o2 vs2 ps2) := ⟨_, rfl⟩
  obtain ⟨ea, hea⟩ : ∃ x, x = attsEq vs vs2 := ⟨_, rfl⟩
  obtain ⟨el, hel⟩ : ∃ x, x = sameL ps ps2 := ⟨_, rfl⟩
  rw [← hres, ← hea, ← hel] at hv0
  rw [← hres]
  rw [← hea] at CE
  rw [← hel] at CF
  have HV := Lib.hid hv0
  obtain ⟨n1, hn1⟩ : ∃ x, x = vs.length := ⟨_, rfl⟩
  obtain ⟨n2, hn2⟩ : ∃ x, x = vs2.length := ⟨_, rfl⟩
  obtain ⟨l1, hl1⟩ : ∃ x, x = ps.length := ⟨_, rfl⟩
  obtain ⟨l2, hl2⟩ : ∃ x, x = ps2.length := ⟨_, rfl⟩
  rw [← hn1, ← hn2] at CE ⊢
  rw [← hl1, ← hl2] at CF ⊢
  clear ih hF hG en eo en2 eo2 hsn hso hsn2 hso2 hv0 hres hea hel hn1 hn2 hl1 hl2 hlen
  obtain ⟨w1, hw1⟩ : ∃ v, v = (w.alloc (.cells #[.int .i64 k, .string sn, .string so, .slice a n1 c, .slice b l1 d] 25)).alloc (.cells #[.int .i64 k2, .string sn2, .string so2, .slice a' n2 c', .slice b' l2 d'] 25) := ⟨_, rfl⟩
  have hs1 : (w.alloc (.cells #[.int .i64 k, .string sn, .string so, .slice a n1 c, .slice b l1 d] 25)).heap.size = w.heap.size + 1 := by simp
  have X1 := Lib.hid (show Box w1 w.heap.size (.int .i64 k) (.string sn) (.string so) (.slice a n1 c) (.slice b l1 d) by rw [hw1]; exact (Box.new ..).later ((Below.refl _ _).alloc (Nat.le_refl _) _))
  have X2 := Lib.hid (show Box w1 (w.heap.size + 1) (.int .i64 k2) (.string sn2) (.string so2) (.slice a' n2 c') (.slice b' l2 d') by rw [hw1, ← hs1]; exact Box.new ..)
  have HB := Lib.hid (show Below w.heap.size w w1 by rw [hw1]; exact ((Below.refl _ _).alloc (Nat.le_refl _) _).alloc (by rw [hs1]; omega) _)
  have HW := Lib.hid hw1
  clear hw1 hs1
  by_cases h1 : k = k2
  · subst h1
    by_cases h2 : sn = sn2
    · subst h2
      by_cases h3 : so = so2
      · subst h3
        cases ea
        · have HF0 := Lib.hid (show res = false by rw [HV.out]; simp)
          go_enter Tryd.func8, Tryd.ntmps8
          go_wp2_with (go_at_call 14; rw [← HW.out]; refine Calls.mono (CE.out _ (HA1.out.fit HB.out) (HA2.out.fit HB.out)) ?_; rintro e w2 ⟨rfl, hb⟩; have HB2 := Lib.hid (HB.out.trans (hb.mono HB.out.size)); clear hb)
          go_ret
          exact ⟨by rw [HF0.out]; rfl, HB2.out⟩
        · have HF0 := Lib.hid (show res = el by rw [HV.out]; simp)
          go_enter Tryd.func8, Tryd.ntmps8
          go_wp2_with (first | (go_at_call 14; rw [← HW.out]; refine Calls.mono (CE.out _ (HA1.out.fit HB.out) (HA2.out.fit HB.out)) ?_; rintro e w2 ⟨rfl, hb⟩; have HB2 := Lib.hid (HB.out.trans (hb.mono HB.out.size)); obtain ⟨c0, c1, c2, c3, c4⟩ := X1.out.later hb; obtain ⟨d0, d1, d2, d3, d4⟩ := X2.out.later hb; clear hb) | (go_at_call 15; refine Calls.mono (CF.out _ (HP1.out.fit HB2.out) (HP2.out.fit HB2.out)) ?_; rintro e w3 ⟨rfl, hb⟩; have HB3 := Lib.hid (HB2.out.trans (hb.mono HB2.out.size)); clear hb))
          go_ret
          exact ⟨by rw [HF0.out]; rfl, HB3.out⟩
      · have h3l := ne_bytes h3
        have HF0 := Lib.hid (show res = false by rw [HV.out, decide_eq_false h3]; simp)
        go_enter Tryd.func8, Tryd.ntmps8
        go_wp2_with fail
        go_ret
        exact ⟨by rw [HF0.out]; first | rfl | simp [h3l], by rw [← HW.out]; exact HB.out⟩
    · have h2l := ne_bytes h2
      have HF0 := Lib.hid (show res = false by rw [HV.out, decide_eq_false h2]; simp)
      go_enter Tryd.func8, Tryd.ntmps8
      go_wp2_with fail
      go_ret
      exact ⟨by rw [HF0.out]; first | rfl | simp [h2l], by rw [← HW.out]; exact HB.out⟩
  · have HF0 := Lib.hid (show res = false by rw [HV.out, decide_eq_false h1]; simp)
    go_enter Tryd.func8, Tryd.ntmps8
    go_wp2_with fail
    go_ret
    exact ⟨by rw [HF0.out]; first | rfl | simp [h1], by rw [← HW.out]; exact HB.out⟩
theorem same_all : ∀ (N : Nat) (f : Flt), sz f ≤ N → SameOk f
  | 0, f, h => by have := sz_pos f; omega
  | N + 1, f, h => same_ok f fun q hq => same_all N q (by
      cases f
      simp only [Flt.parts] at hq
      have := sz_mem hq
      rw [sz] at h
      omega)
end Go.Proofs.YtjffnjiggcfhcaaDoor.Fl
/-
  Plain facts on filters: how much fuel the readers have makes no difference, where it is more than the tokens are. No program here.
-/
namespace Go.Proofs.YtjffnjiggcfhcaaDoor.Fl
set_option linter.unusedVariables false
set_option linter.unusedSimpArgs false

/-- Two readers answer alike at rows of at most so many tokens. -/
def Alike (L : Nat) (a b : List Tc → Option (Flt × List Tc)) : Prop := ∀ ts, ts.length ≤ L → a ts = b ts
theorem Left.short {ts r : List Tc} {n : Nat} (h : Left ts r n) : r.length ≤ ts.length := by have := h.2; omega
theorem tail_alike {w : List UInt8} {a b : List Tc → Option (Flt × List Tc)} (ha : Con a) {L : Nat} (h : Alike L a b) :
    ∀ (n : Nat) (acc : Flt) (ts : List Tc), ts.length ≤ L → tailP w a n acc ts = tailP w b n acc ts
  | 0, _, _, _ => rfl
  | n + 1, acc, ts, ht => by
    simp only [tailP]
    cases h1 : takes w ts with
    | none => rfl
    | some r =>
      have h2 := (takes_left h1).short
      simp only
      rw [← h r (by omega)]
      cases h3 : a r with
      | none => rfl
      | some x =>
        obtain ⟨y, r2⟩ := x
        have h4 := (ha _ _ _ h3).short
        exact tail_alike ha h n (add acc y) r2 (by omega)
theorem chain_alike {w : List UInt8} {k : Int} {a b : List Tc → Option (Flt × List Tc)} (ha : Con a) {L : Nat} (h : Alike L a b) : Alike L (chainP w k a) (chainP w k b) := fun ts ht => by
  simp only [chainP]
  rw [← h ts ht]
  cases h1 : a ts with
  | none => rfl
  | some x =>
    obtain ⟨x, r⟩ := x
    have h2 := (ha _ _ _ h1).short
    simp only
    rw [tail_alike ha h _ _ _ (by omega)]
theorem tail_fuel {w : List UInt8} {a : List Tc → Option (Flt × List Tc)} (ha : Con a) :
    ∀ (n m : Nat) (acc : Flt) (ts : List Tc), ts.length < n → ts.length < m → tailP w a n acc ts = tailP w a m acc ts
  | 0, _, _, _, h, _ => by omega
  | n + 1, 0, _, _, _, h => by omega
  | n + 1, m + 1, acc, ts, hn, hm => by
    simp only [tailP]
    cases h1 : takes w ts with
    | none => rfl
    | some r =>
      have h2 := (takes_left h1).2
      simp only
      cases h3 : a r with
      | none => rfl
      | some x =>
        obtain ⟨y, r2⟩ := x
        have h4 := (ha _ _ _ h3).short
        exact tail_fuel ha n m (add acc y) r2 (by omega) (by omega)
theorem not_fuel : ∀ (n m : Nat) (ts : List Tc), ts.length < n → ts.length < m → notP n ts = notP m ts
  | 0, _, _, h, _ => by omega
  | n + 1, 0, _, _, h => by omega
  | n + 1, m + 1, ts, hn, hm => by
    simp only [notP]
    cases h1 : takes wNot ts with
    | some r =>
      have h2 := (takes_left h1).2
      simp only
      rw [not_fuel n m r (by omega) (by omega)]
    | none =>
      cases h2 : takes sOpen ts with
      | some r =>
        have h3 := (takes_left h2).2
        have ha : Alike r.length (notP n) (notP m) := fun us hu => not_fuel n m us (by omega) (by omega)
        have hc := chain_alike (w := wOr) (k := 2) (chain_con (not_con n)) (chain_alike (w := wAnd) (k := 1) (not_con n) ha) r (Nat.le_refl _)
        simp only [hc]
      | none => rfl
theorem or_fuel (n m : Nat) (ts : List Tc) (hn : ts.length < n) (hm : ts.length < m) : orP n ts = orP m ts :=
  chain_alike (w := wOr) (k := 2) (chain_con (not_con n)) (chain_alike (w := wAnd) (k := 1) (not_con n) (L := ts.length) (fun us hu => not_fuel n m us (by omega) (by omega))) ts (Nat.le_refl _)
end Go.Proofs.YtjffnjiggcfhcaaDoor.Fl
namespace Go.Proofs.YtjffnjiggcfhcaaDoor.Fl
open Go.Proofs.YtjffnjiggcfhcaaDoor.Tk
set_option linter.unusedVariables false
set_option linter.unusedSimpArgs false

/-- What a text is read as, if it is cut, and read to its end. -/
def readL (l : List UInt8) : Option Flt :=
  match cutAt 0 l with
  | none => none
  | some ks =>
    match orP (ks.length + 1) (ks.map core) with
    | some (f, []) => some f
    | _ => none
theorem read_show {f : Flt} (h : fine f = true) (hr : rng f) : readL (showF f) = some f := by
  obtain ⟨ks, e, c⟩ := show_back h hr
  have h1 := c (2 * sz f + ks.length + 1) (by omega)
  rw [or_fuel _ (ks.length + 1) _ (by rw [List.length_map]; omega) (by rw [List.length_map]; omega)] at h1
  simp only [readL, e, h1]
theorem read_some {l : List UInt8} {f : Flt} (h : readL l = some f) : ∃ ks, cutAt 0 l = some ks ∧ orP (ks.length + 1) (ks.map core) = some (f, []) := by
  unfold readL at h
  cases h1 : cutAt 0 l with
  | none => simp [h1] at h
  | some ks =>
    simp only [h1] at h
    cases h2 : orP (ks.length + 1) (ks.map core) with
    | none => simp [h2] at h
    | some x =>
      obtain ⟨g, r⟩ := x
      match r, h, h2 with
      | [], h, h2 =>
        simp only [h2] at h
        cases h
        exact ⟨ks, rfl, h2⟩
      | t :: r, h, h2 => simp [h2] at h
theorem read_fine {l : List UInt8} {f : Flt} (h : readL l = some f) (hs : slim f = true) : fine f = true ∧ rng f := by
  obtain ⟨ks, h1, h2⟩ := read_some h
  have hg := read_good h1 h2
  exact ⟨fine_of f hg.1 hs, hg.2⟩
/-- What is read has a text that is read as it. -/
theorem read_read {l : List UInt8} {f : Flt} (h : readL l = some f) (hs : slim f = true) : readL (showF f) = some f := by
  obtain ⟨h1, h2⟩ := read_fine h hs
  exact read_show h1 h2
end Go.Proofs.YtjffnjiggcfhcaaDoor.Fl
