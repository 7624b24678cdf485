/-
  Contract of slices.Equal of attributes: are two lists the same? Memory that was there is left as it was.
-/
import Derived.Test.YtndgbdbjmogioaaWiMsg
import Derived.BigQuiet
import Derived.Lib.Strings
import Derived.Lib.IndexBytes
namespace Go.Proofs.Ytndgbdbjmogioaa.Wi
open Go.RowKit Go.Proofs.Ytndgbdbjmogioaa.Fl
set_option linter.unusedVariables false
set_option linter.unusedSimpArgs false

theorem bs_of' (l : List UInt8) : ∃ s : ByteArray, bs l = .string s ∧ s.data.toList = l := ⟨⟨l.toArray⟩, rfl, rfl⟩
def eqL {α : Type} (p : α → α → Bool) : List α → List α → Bool
  | [], [] => true
  | u :: r, v :: s => p u v && eqL p r s
  | _, _ => false
theorem eqL_len {α : Type} {p : α → α → Bool} : ∀ {l m : List α}, l.length ≠ m.length → eqL p l m = false
  | [], [], h => absurd rfl h
  | [], _ :: _, _ => rfl
  | _ :: _, [], _ => rfl
  | u :: r, v :: s, h => by rw [eqL, eqL_len (by simpa using h), Bool.and_false]
theorem eqL_no {α : Type} {p : α → α → Bool} : ∀ {l m : List α} {k : Nat} {u v : α}, l[k]? = some u → m[k]? = some v → p u v = false → eqL p l m = false
  | [], _, k, u, v, h, _, _ => by simp at h
  | _ :: _, [], k, u, v, _, h, _ => by simp at h
  | a :: r, b :: s, 0, u, v, h1, h2, h => by
    simp at h1 h2
    rw [eqL, h1, h2, h, Bool.false_and]
  | a :: r, b :: s, k + 1, u, v, h1, h2, h => by rw [eqL, eqL_no (k := k) (by simpa using h1) (by simpa using h2) h, Bool.and_false]
theorem eqL_yes {α : Type} {p : α → α → Bool} : ∀ {l m : List α}, l.length = m.length → (∀ (k : Nat) (u v : α), k < l.length → l[k]? = some u → m[k]? = some v → p u v = true) → eqL p l m = true
  | [], [], _, _ => rfl
  | [], _ :: _, h, _ => by simp at h
  | _ :: _, [], h, _ => by simp at h
  | u :: r, v :: s, h, g => by
    rw [eqL, g 0 u v (by simp) (by simp) (by simp), Bool.true_and]
    exact eqL_yes (by simpa using h) fun k a b hk ha hb => g (k + 1) a b (by simpa using hk) (by simpa using ha) (by simpa using hb)
theorem eqL_more {α : Type} {p : α → α → Bool} {l m : List α} {k : Nat} {u v : α} (h : ∀ (i : Nat) (u v : α), i < k → l[i]? = some u → m[i]? = some v → p u v = true) (hu : l[k]? = some u) (hv : m[k]? = some v) (hp : p u v = true) :
    ∀ (i : Nat) (u v : α), i < k + 1 → l[i]? = some u → m[i]? = some v → p u v = true := by
  intro i a b hi ha hb
  by_cases e : i = k
  · subst e
    rw [hu] at ha
    rw [hv] at hb
    cases ha
    cases hb
    exact hp
  · exact h i a b (by omega) ha hb
def attEq (u v : Att) : Bool := u.name == v.name && u.text == v.text && u.num == v.num && u.str == v.str
def attsEq (l m : List Att) : Bool := eqL attEq l m
theorem neq_att (s1 : ByteArray) (t1 : Bool) (n1 : Int) (r1 s2 : ByteArray) (t2 : Bool) (n2 : Int) (r2 : ByteArray) (w : World) :
    (binOp .neq 50 (.agg #[.string s1, .bool t1, .int .i64 n1, .string r1]) (.agg #[.string s2, .bool t2, .int .i64 n2, .string r2])).run Try.prog w = .ok (.bool (!(s1.toList == s2.toList && t1 == t2 && n1 == n2 && r1.toList == r2.toList))) w := by
  simp [go_sem]
  by_cases h1 : s1.toList = s2.toList <;> by_cases h2 : t1 = t2 <;> by_cases h3 : n1 = n2 <;> by_cases h4 : r1.toList = r2.toList <;> simp [h1, h2, h3, h4]
theorem att_eq {u v : Att} {s1 r1 s2 r2 : ByteArray} (h1 : s1.data.toList = u.name) (h2 : r1.data.toList = u.str) (h3 : s2.data.toList = v.name) (h4 : r2.data.toList = v.str) : (s1.toList == s2.toList && u.text == v.text && u.num == v.num && r1.toList == r2.toList) = attEq u v := by
  rw [Lib.toList_data, Lib.toList_data, Lib.toList_data, Lib.toList_data, h1, h2, h3, h4, attEq]
def EqR {α : Type} (p : α → α → Bool) (l m : List α) (w : World) (vi : Value) (wr : World) : Prop :=
  ∃ k : Nat, k ≤ l.length ∧ vi = .int .i64 k ∧ Hid (∀ (i : Nat) (u v : α), i < k → l[i]? = some u → m[i]? = some v → p u v = true) ∧ Below w.heap.size w wr

set_option maxHeartbeats 1000000 in
set_option maxRecDepth 100000 in
theorem equal_any (us vs : List Att) (a b : Option Addr) (c d : Nat) (w : World) (hA : AttsAt w (Old w.heap.size) a us) (hB : AttsAt w (Old w.heap.size) b vs) :
    Calls Try.prog 49 #[.slice a us.length c, .slice b vs.length d] w fun e w' => e = .returned (.bool (attsEq us vs)) ∧ Below w.heap.size w w' := by
  have HA := Lib.hid hA
  have HB := Lib.hid hB
  obtain ⟨n, hn⟩ : ∃ n, n = us.length := ⟨_, rfl⟩
  have hm : n ≤ 9223372036854775807 := by have := hA.1; unfold maxLen at this; omega
  obtain ⟨res, hres⟩ : ∃ x, x = attsEq us vs := ⟨_, rfl⟩
  have HR := Lib.hid hres
  rw [← hres]
  by_cases hl : us.length = vs.length
  · have HN := Lib.hid hn
    have HN2 := Lib.hid (hn.trans hl)
    rw [← hl, ← hn]
    clear hl hn hA hB hres
    go_enter Try.func49, Try.ntmps49
    go_wp2_with fail
    go_loopw [13] (fun vi wr => EqR attEq us vs w vi wr) (fun vi _ => n - (intOf vi).toNat)
    case atStart => exact ⟨0, Nat.zero_le _, rfl, Lib.hid (fun i u v h => absurd h (Nat.not_lt_zero _)), Below.refl _ _⟩
    case round =>
      obtain ⟨k, hk, rfl, hall, hBB⟩ := hrel
      have HK := Lib.hid hk
      have HBB := Lib.hid hBB
      clear hk hBB
      by_cases hlt : k < n
      · have hlz : (k : Int) < (n : Int) := by omega
        have hku : k < us.length := by rw [← HN.out]; exact hlt
        have hkv : k < vs.length := by rw [← HN2.out]; exact hlt
        obtain ⟨g, o, hg, _, hc⟩ := (HA.out.later HBB.out).2.2 (by omega)
        obtain ⟨g2, o2, hg2, _, hc2⟩ := (HB.out.later HBB.out).2.2 (by omega)
        obtain ⟨c0, c1, c2, c3⟩ := hc k hku
        obtain ⟨d0, d1, d2, d3⟩ := hc2 k hkv
        obtain ⟨U, hU⟩ : ∃ V, V = us[k] := ⟨_, rfl⟩
        obtain ⟨V, hV⟩ : ∃ V, V = vs[k] := ⟨_, rfl⟩
        rw [← hU] at c0 c1 c2 c3
        rw [← hV] at d0 d1 d2 d3
        obtain ⟨s1, e1, f1⟩ := bs_of' U.name
        obtain ⟨r1, e2, f2⟩ := bs_of' U.str
        obtain ⟨s2, e3, f3⟩ := bs_of' V.name
        obtain ⟨r2, e4, f4⟩ := bs_of' V.str
        have HEQ := att_eq f1 f2 f3 f4
        obtain ⟨t1, ht1⟩ : ∃ x, x = U.text := ⟨_, rfl⟩
        obtain ⟨n1, hn1⟩ : ∃ x, x = U.num := ⟨_, rfl⟩
        obtain ⟨t2, ht2⟩ : ∃ x, x = V.text := ⟨_, rfl⟩
        obtain ⟨n2, hn2⟩ : ∃ x, x = V.num := ⟨_, rfl⟩
        rw [e1] at c0
        rw [← ht1] at c1 HEQ
        rw [← hn1] at c2 HEQ
        rw [e2] at c3
        rw [e3] at d0
        rw [← ht2] at d1 HEQ
        rw [← hn2] at d2 HEQ
        rw [e4] at d3
        have q := neq_att s1 t1 n1 r1 s2 t2 n2 r2
        obtain ⟨eq, heq⟩ : ∃ x, x = (s1.toList == s2.toList && t1 == t2 && n1 == n2 && r1.toList == r2.toList) := ⟨_, rfl⟩
        rw [← heq] at q HEQ
        have HE := Lib.hid HEQ
        have HUK := Lib.hid (show us[k]? = some U by rw [hU]; exact List.getElem?_eq_getElem hku)
        have HVK := Lib.hid (show vs[k]? = some V by rw [hV]; exact List.getElem?_eq_getElem hkv)
        subst hg
        subst hg2
        clear hc hc2 hU hV e1 e2 e3 e4 f1 f2 f3 f4 HEQ ht1 hn1 ht2 hn2 heq
        cases eq
        · have HF := Lib.hid (show res = false by rw [HR.out]; exact eqL_no HUK.out HVK.out HE.out.symm)
          go_wp2_with fail
          go_region
          all_goals
            go_wp2_with fail
            go_ret
            exact ⟨by rw [HF.out]; rfl, HBB.out.drew⟩
        · have HF := Lib.hid (eqL_more hall.out HUK.out HVK.out HE.out.symm)
          go_wp2_with fail
          go_region
          all_goals
            go_wp2_with fail
            go_roundw
            case rel => exact ⟨k + 1, by omega, by go_num, HF, HBB.out.drew⟩
            case measure => simp [intOf]; omega
      · have hlz : ¬ (k : Int) < (n : Int) := by omega
        have HF := Lib.hid (show res = true by
          rw [HR.out]
          exact eqL_yes (HN.out.symm.trans HN2.out) fun i u v hi => hall.out i u v (by have := HN.out; omega))
        go_wp2_with fail
        go_ret
        exact ⟨by rw [HF.out]; rfl, HBB.out⟩
  · have HF := Lib.hid (show res = false by rw [hres]; exact eqL_len hl)
    have hlz : ¬ (us.length : Int) = (vs.length : Int) := by omega
    clear hA hB hres hn
    go_enter Try.func49, Try.ntmps49
    go_wp2_with fail
    go_ret
    exact ⟨by rw [HF.out]; rfl, Below.refl _ _⟩

end Go.Proofs.Ytndgbdbjmogioaa.Wi
