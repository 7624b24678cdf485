/-
  Contracts of slices.Equal of points, of Same of layer 16 (region), and of the document's Regions. Memory that was there is left as it was.
-/
import Derived.Test.YtiggjaodfmelpaaRgSmall
import Derived.BigQuiet
import Derived.WalkSmall
namespace Go.Proofs.Ytiggjaodfmelpaa.Rg
open Go.RowKit Go.Proofs.Ytiggjaodfmelpaa.Pt Go.Proofs.Ytiggjaodfmelpaa.Rc Go.Proofs.Ytiggjaodfmelpaa.Pts Go.Proofs.Ytiggjaodfmelpaa.Pl
set_option linter.unusedVariables false

theorem neq_pt (x y x2 y2 : Int) (w : World) : (binOp .neq 28 (.agg #[.int .i64 x, .int .i64 y]) (.agg #[.int .i64 x2, .int .i64 y2])).run Try.prog w = .ok (.bool (!(x == x2 && y == y2))) w := by
  simp [go_sem]
  by_cases h1 : x = x2 <;> by_cases h2 : y = y2 <;> simp [h1, h2]
theorem neq_rect (a b c d a2 b2 c2 d2 : Int) (w : World) : (binOp .neq 23 (.agg #[.int .i64 a, .int .i64 b, .int .i64 c, .int .i64 d]) (.agg #[.int .i64 a2, .int .i64 b2, .int .i64 c2, .int .i64 d2])).run Try.prog w = .ok (.bool (!eq4 a b c d a2 b2 c2 d2)) w := by
  simp [go_sem, eq4]
  by_cases h1 : a = a2 <;> by_cases h2 : b = b2 <;> by_cases h3 : c = c2 <;> by_cases h4 : d = d2 <;> simp [h1, h2, h3, h4]
theorem pt_same {p q : Pnt} (h : (p.1 == q.1 && p.2 == q.2) = true) : p = q := by
  simp only [Bool.and_eq_true, beq_iff_eq] at h
  exact Prod.ext h.1 h.2
theorem pt_other {p q : Pnt} (h : (p.1 == q.1 && p.2 == q.2) = false) : p ≠ q := by
  rintro rfl
  simp at h
theorem lists_other {l m : List Pnt} {k : Nat} (h1 : k < l.length) (h2 : k < m.length) (h : l[k] ≠ m[k]) : l ≠ m := by
  rintro rfl
  exact h rfl
def EqR (l m : List Pnt) (w : World) (vi : Value) (wr : World) : Prop :=
  ∃ k : Nat, k ≤ l.length ∧ vi = .int .i64 k ∧ Hid (∀ (i : Nat) (h1 : i < l.length) (h2 : i < m.length), i < k → l[i] = m[i]) ∧ Below w.heap.size w wr
theorem eq_more {l m : List Pnt} {k : Nat} (hk : k < l.length) (hk2 : k < m.length) (h : ∀ (i : Nat) (h1 : i < l.length) (h2 : i < m.length), i < k → l[i] = m[i]) (hn : l[k] = m[k]) :
    ∀ (i : Nat) (h1 : i < l.length) (h2 : i < m.length), i < k + 1 → l[i] = m[i] := by
  intro i h1 h2 hi
  by_cases e : i = k
  · subst e; exact hn
  · exact h i h1 h2 (by omega)
theorem eq_all {l m : List Pnt} (hl : l.length = m.length) (h : ∀ (i : Nat) (h1 : i < l.length) (h2 : i < m.length), i < l.length → l[i] = m[i]) : l = m :=
  List.ext_getElem hl fun i h1 h2 => h i h1 h2 h1

set_option maxHeartbeats 1000000 in
set_option maxRecDepth 100000 in
theorem equal_any (l m : List Pnt) (A B : Option Addr) (c d : Nat) (w : World) (hA : PtsAt w w.heap.size A l) (hB : PtsAt w w.heap.size B m) (hn : l.length ≤ 70) :
    Calls Try.prog 27 #[.slice A l.length c, .slice B m.length d] w fun e w' => e = .returned (.bool (decide (l = m))) ∧ Below w.heap.size w w' := by
  have HA := Lib.hid hA
  have HB := Lib.hid hB
  obtain ⟨n, hnn⟩ : ∃ n, n = l.length := ⟨_, rfl⟩
  obtain ⟨res, hres⟩ : ∃ x, x = decide (l = m) := ⟨_, rfl⟩
  have HR := Lib.hid hres
  rw [← hres]
  by_cases hl : l.length = m.length
  · have HN := Lib.hid hnn
    have HN2 := Lib.hid (hnn.trans hl)
    rw [← hnn] at hn
    rw [← hl, ← hnn]
    clear hl hnn hA hB hres
    go_enter Try.func27, Try.ntmps27
    go_wp2_with fail
    go_loopw [13] (fun vi wr => EqR l m w vi wr) (fun vi _ => n - (intOf vi).toNat)
    case atStart => exact ⟨0, Nat.zero_le _, rfl, Lib.hid (fun i _ _ h => absurd h (Nat.not_lt_zero _)), Below.refl _ _⟩
    case round =>
      obtain ⟨k, hk, rfl, hall, hBB⟩ := hrel
      rw [← HN.out] at hk
      have HK := Lib.hid hk
      have HBB := Lib.hid hBB
      clear hk hBB
      by_cases hlt : k < n
      · have hlz : (k : Int) < (n : Int) := by omega
        have hku : k < l.length := by rw [← HN.out]; exact hlt
        have hkv : k < m.length := by rw [← HN2.out]; exact hlt
        obtain ⟨g, o, hg, _, hc⟩ := (HA.out.later HBB.out) (by intro e; rw [e] at hku; simp at hku)
        obtain ⟨g2, o2, hg2, _, hc2⟩ := (HB.out.later HBB.out) (by intro e; rw [e] at hkv; simp at hkv)
        obtain ⟨c0, c1⟩ := hc k hku
        obtain ⟨d0, d1⟩ := hc2 k hkv
        obtain ⟨U, hU⟩ : ∃ V, V = l[k] := ⟨_, rfl⟩
        obtain ⟨V, hV⟩ : ∃ V, V = m[k] := ⟨_, rfl⟩
        rw [← hU] at c0 c1
        rw [← hV] at d0 d1
        have q := neq_pt U.1 U.2 V.1 V.2
        obtain ⟨eq, heq⟩ : ∃ x, x = (U.1 == V.1 && U.2 == V.2) := ⟨_, rfl⟩
        rw [← heq] at q
        have HE := Lib.hid heq
        have HU := Lib.hid hU
        have HV := Lib.hid hV
        subst hg
        subst hg2
        clear hc hc2 hU hV heq
        cases eq
        · have HF := Lib.hid (show res = false by rw [HR.out]; exact decide_eq_false (lists_other hku hkv (by rw [← HU.out, ← HV.out]; exact pt_other HE.out.symm)))
          go_wp2_with fail
          go_region
          all_goals
            go_wp2_with fail
            go_ret
            exact ⟨by rw [HF.out]; rfl, HBB.out.drew⟩
        · have HF := Lib.hid (eq_more hku hkv hall.out (by rw [← HU.out, ← HV.out]; exact pt_same HE.out.symm))
          go_wp2_with fail
          go_region
          all_goals
            go_wp2_with fail
            go_roundw
            case rel => exact ⟨k + 1, by omega, by go_num, HF, HBB.out.drew⟩
            case measure => simp [intOf]; omega
      · have hlz : ¬ (k : Int) < (n : Int) := by omega
        have HF := Lib.hid (show res = true by
          rw [HR.out]
          exact decide_eq_true (eq_all (HN.out.symm.trans HN2.out) fun i h1 h2 hi => hall.out i h1 h2 (by have := HN.out; omega)))
        go_wp2_with fail
        go_ret
        exact ⟨by rw [HF.out]; rfl, HBB.out⟩
  · have HF := Lib.hid (show res = false by rw [hres]; exact decide_eq_false (fun e => hl (by rw [e])))
    have hlz : ¬ (l.length : Int) = (m.length : Int) := by omega
    clear hA hB hres hnn
    go_enter Try.func27, Try.ntmps27
    go_wp2_with fail
    go_ret
    exact ⟨by rw [HF.out]; rfl, Below.refl _ _⟩
-- gen
set_option maxHeartbeats 1000000 in
theorem same_any (a b c d : Int) (l : List Pnt) (A : Option Addr) (k : Nat) (a2 b2 c2 d2 : Int) (m : List Pnt) (B : Option Addr) (k2 : Nat) (w : World) (hA : PtsAt w w.heap.size A l) (hB : PtsAt w w.heap.size B m) (hn : l.length ≤ 70) :
    Calls Try.prog 11 #[.agg #[.int .i64 a, .int .i64 b, .int .i64 c, .int .i64 d, .slice A l.length k], .agg #[.int .i64 a2, .int .i64 b2, .int .i64 c2, .int .i64 d2, .slice B m.length k2]] w fun e w' => e = .returned (.bool (eq4 a b c d a2 b2 c2 d2 && decide (l = m))) ∧ Below w.heap.size w w' := by
  have C := Lib.hid (fun W (h : Below w.heap.size w W) => equal_any l m A B k k2 W ((hA.later h).wide h.size) ((hB.later h).wide h.size) hn)
  obtain ⟨r, er⟩ : ∃ r, r = decide (l = m) := ⟨_, rfl⟩
  rw [← er] at C ⊢
  obtain ⟨n, e⟩ : ∃ n, n = l.length := ⟨_, rfl⟩
  obtain ⟨n2, e2⟩ : ∃ n, n = m.length := ⟨_, rfl⟩
  rw [← e, ← e2] at C ⊢
  clear e e2 hA hB hn er
  have q := eql_rect a b c d a2 b2 c2 d2
  have L := Lib.hid ((Kp.two (Kp.behind _ (.cells #[.int .i64 a2, .int .i64 b2, .int .i64 c2, .int .i64 d2, .slice B n2 k2] 26)) (Kp.two (Kp.behind _ (.cells #[.int .i64 a2, .int .i64 b2, .int .i64 c2, .int .i64 d2, .slice B n2 k2] 26)) (Kp.one (Kp.behind _ (.cells #[.int .i64 a2, .int .i64 b2, .int .i64 c2, .int .i64 d2, .slice B n2 k2] 26)) (fun h => Kp.ad50 h (w.heap.size + 1) (by simp) (.int .i64 a2) (.int .i64 b2) (.int .i64 c2) (.int .i64 d2) (.slice B n2 k2) 26)))) ((fun h => Kp.ad50 h w.heap.size rfl (.int .i64 a) (.int .i64 b) (.int .i64 c) (.int .i64 d) (.slice A n k) 26) ⟨Nat.le_refl _, Below.refl w.heap.size w⟩))
  have z := L.out
  cases hq : eq4 a b c d a2 b2 c2 d2
  · rw [hq] at q
    go_enter Try.func11, Try.ntmps11
    go_wp2_with fail
    go_ret
    exact ⟨by simp, L.out.2.2.2.2.2.2.2.2.2.2.2⟩
  · rw [hq] at q
    go_enter Try.func11, Try.ntmps11
    go_wp2_with fail
    refine (C.out _ L.out.2.2.2.2.2.2.2.2.2.2.2).mono ?_
    rintro e w1 ⟨rfl, hb1⟩
    have K1 := Lib.hid ((Kp.two hb1 (Kp.two hb1 (Kp.two hb1 (Kp.two hb1 (Kp.two hb1 (Kp.ends hb1)))))) L.out)
    clear hb1 z L
    go_wp2_with fail
    go_ret
    exact ⟨by simp, K1.out.2.2.2.2.2.2.2.2.2.2.2⟩

def RgR (l m : List Pnt) (v : World) (vi : Value) (wr : World) : Prop :=
  ∃ k : Nat, k ≤ l.length ∧ vi = .int .i64 k ∧ Hid (∀ (i : Nat) (h1 : i < l.length) (h2 : i < m.length), i < k → l[i] = m[i]) ∧ Below v.heap.size v wr
set_option maxHeartbeats 2000000 in
set_option maxRecDepth 100000 in
theorem regions_any (a b c d : Int) (l : List Pnt) (A : Option Addr) (k : Nat) (a2 b2 c2 d2 : Int) (m : List Pnt) (B : Option Addr) (k2 : Nat) (w : World) (hA : PtsAt w w.heap.size A l) (hB : PtsAt w w.heap.size B m) (hn : l.length ≤ 70) (hm : m.length ≤ 70) :
    Calls Try.prog 12 #[.agg #[.int .i64 a, .int .i64 b, .int .i64 c, .int .i64 d, .slice A l.length k], .agg #[.int .i64 a2, .int .i64 b2, .int .i64 c2, .int .i64 d2, .slice B m.length k2]] w fun e w' => e = .returned (.bool (eq4 a b c d a2 b2 c2 d2 && decide (l = m))) ∧ Below w.heap.size w w' := by
  have HA := Lib.hid hA
  have HB := Lib.hid hB
  obtain ⟨res, hres⟩ : ∃ x, x = decide (l = m) := ⟨_, rfl⟩
  have HR := Lib.hid hres
  rw [← hres]
  obtain ⟨n, e⟩ : ∃ n, n = l.length := ⟨_, rfl⟩
  obtain ⟨n2, e2⟩ : ∃ n, n = m.length := ⟨_, rfl⟩
  have HN := Lib.hid e
  have HN2 := Lib.hid e2
  rw [← e] at hn
  rw [← e2] at hm
  rw [← e, ← e2]
  have q := neq_rect a b c d a2 b2 c2 d2
  clear hA hB hres e e2
  have L := Lib.hid ((Kp.two (Kp.behind _ (.cells #[.int .i64 a2, .int .i64 b2, .int .i64 c2, .int .i64 d2, .slice B n2 k2] 26)) (Kp.two (Kp.behind _ (.cells #[.int .i64 a2, .int .i64 b2, .int .i64 c2, .int .i64 d2, .slice B n2 k2] 26)) (Kp.one (Kp.behind _ (.cells #[.int .i64 a2, .int .i64 b2, .int .i64 c2, .int .i64 d2, .slice B n2 k2] 26)) (fun h => Kp.ad50 h (w.heap.size + 1) (by simp) (.int .i64 a2) (.int .i64 b2) (.int .i64 c2) (.int .i64 d2) (.slice B n2 k2) 26)))) ((fun h => Kp.ad50 h w.heap.size rfl (.int .i64 a) (.int .i64 b) (.int .i64 c) (.int .i64 d) (.slice A n k) 26) ⟨Nat.le_refl _, Below.refl w.heap.size w⟩))
  have z := L.out
  cases hq : eq4 a b c d a2 b2 c2 d2
  · rw [hq] at q
    go_enter Try.func12, Try.ntmps12
    go_wp2_with fail
    go_ret
    exact ⟨by simp, L.out.2.2.2.2.2.2.2.2.2.2.2⟩
  · rw [hq] at q
    by_cases hl : n = n2
    · subst hl
      obtain ⟨v, hv⟩ : ∃ v, v = (w.alloc (.cells #[.int .i64 a, .int .i64 b, .int .i64 c, .int .i64 d, .slice A n k] 26)).alloc (.cells #[.int .i64 a2, .int .i64 b2, .int .i64 c2, .int .i64 d2, .slice B n k2] 26) := ⟨_, rfl⟩
      rw [← hv] at L
      have BV := Lib.hid (L.out.2.2.2.2.2.2.2.2.2.2.2)
      clear z
      go_enter Try.func12, Try.ntmps12
      go_wp2_with fail
      rw [← hv]
      clear hv
      go_loopw [5] (fun vi wr => RgR l m v vi wr) (fun vi _ => n - (intOf vi).toNat)
      case atStart => exact ⟨0, Nat.zero_le _, rfl, Lib.hid (fun i _ _ h => absurd h (Nat.not_lt_zero _)), Below.refl _ _⟩
      case round =>
        obtain ⟨j, hk, rfl, hall, hBB⟩ := hrel
        rw [← HN.out] at hk
        have K := Lib.hid ((Kp.two hBB (Kp.two hBB (Kp.two hBB (Kp.two hBB (Kp.two hBB (Kp.ends hBB)))))) L.out)
        have z := K.out
        have HBB := Lib.hid hBB
        clear hBB
        by_cases hlt : j < n
        · have hlz : (j : Int) < (n : Int) := by omega
          have hku : j < l.length := by rw [← HN.out]; exact hlt
          have hkv : j < m.length := by rw [← HN2.out]; exact hlt
          obtain ⟨g, o, hg, _, hc⟩ := (HA.out.later K.out.2.2.2.2.2.2.2.2.2.2.2) (by intro e; rw [e] at hku; simp at hku)
          obtain ⟨g2, o2, hg2, _, hc2⟩ := (HB.out.later K.out.2.2.2.2.2.2.2.2.2.2.2) (by intro e; rw [e] at hkv; simp at hkv)
          obtain ⟨c0, c1⟩ := hc j hku
          obtain ⟨d0, d1⟩ := hc2 j hkv
          obtain ⟨U, hU⟩ : ∃ V, V = l[j] := ⟨_, rfl⟩
          obtain ⟨V, hV⟩ : ∃ V, V = m[j] := ⟨_, rfl⟩
          rw [← hU] at c0 c1
          rw [← hV] at d0 d1
          have q := neq_pt U.1 U.2 V.1 V.2
          obtain ⟨eq, heq⟩ : ∃ x, x = (U.1 == V.1 && U.2 == V.2) := ⟨_, rfl⟩
          rw [← heq] at q
          have HE := Lib.hid heq
          have HU := Lib.hid hU
          have HV := Lib.hid hV
          subst hg
          subst hg2
          clear hc hc2 hU hV heq
          cases eq
          · have HF := Lib.hid (show res = false by rw [HR.out]; exact decide_eq_false (lists_other hku hkv (by rw [← HU.out, ← HV.out]; exact pt_other HE.out.symm)))
            go_wp2_with fail
            go_quiet (fail)
            go_wp2_with fail
            go_ret
            exact ⟨by rw [HF.out]; rfl, below_drewN (K.out.2.2.2.2.2.2.2.2.2.2.2) _⟩
          · have HF := Lib.hid (eq_more hku hkv hall.out (by rw [← HU.out, ← HV.out]; exact pt_same HE.out.symm))
            go_wp2_with fail
            go_quiet (fail)
            go_wp2_with fail
            go_roundw
            case rel => exact ⟨j + 1, by omega, by go_num, HF, below_drewN HBB.out _⟩
            case measure => simp [intOf]; omega
        · have hlz : ¬ (j : Int) < (n : Int) := by omega
          have HF := Lib.hid (show res = true by
            rw [HR.out]
            exact decide_eq_true (eq_all (HN.out.symm.trans HN2.out) fun i h1 h2 hi => hall.out i h1 h2 (by have := HN.out; omega)))
          go_wp2_with fail
          go_ret
          exact ⟨by rw [HF.out]; rfl, K.out.2.2.2.2.2.2.2.2.2.2.2⟩
    · have HF := Lib.hid (show res = false by rw [HR.out]; exact decide_eq_false (fun e => hl (by rw [HN.out, HN2.out, e])))
      have hlz : ¬ (n : Int) = (n2 : Int) := by omega
      go_enter Try.func12, Try.ntmps12
      go_wp2_with fail
      go_ret
      exact ⟨by rw [HF.out]; rfl, L.out.2.2.2.2.2.2.2.2.2.2.2⟩
end Go.Proofs.Ytiggjaodfmelpaa.Rg
