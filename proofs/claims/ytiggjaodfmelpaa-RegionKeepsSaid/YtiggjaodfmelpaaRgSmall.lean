/-
  Contracts of layer 16 (region): hasPoly, May, the statements' Few, the document's Region. Memory that was there is left as it was.
-/
import Derived.Test.YtiggjaodfmelpaaRgPlain
import Derived.Test.YtiggjaodfmelpaaRgKeep
import Derived.Test.YtiggjaodfmelpaaPlTop
import Derived.Test.YtiggjaodfmelpaaPlRefS
import Derived.Test.YtiggjaodfmelpaaRcMidA
namespace Go.Proofs.Ytiggjaodfmelpaa.Rg
open Go.RowKit Go.Proofs.Ytiggjaodfmelpaa.Pt Go.Proofs.Ytiggjaodfmelpaa.Rc Go.Proofs.Ytiggjaodfmelpaa.Pts Go.Proofs.Ytiggjaodfmelpaa.Pl
set_option linter.unusedVariables false

theorem eql_rect (a b c d a2 b2 c2 d2 : Int) (w : World) : (binOp .eql 23 (.agg #[.int .i64 a, .int .i64 b, .int .i64 c, .int .i64 d]) (.agg #[.int .i64 a2, .int .i64 b2, .int .i64 c2, .int .i64 d2])).run Try.prog w = .ok (.bool (eq4 a b c d a2 b2 c2 d2)) w := by
  simp [go_sem, eq4]
  by_cases h1 : a = a2 <;> by_cases h2 : b = b2 <;> by_cases h3 : c = c2 <;> by_cases h4 : d = d2 <;> simp [h1, h2, h3, h4]
theorem few_any (a b c d : Int) (A : Option Addr) (n k : Nat) (w : World) (hm : n ≤ maxLen) : Calls Try.prog 7 #[.agg #[.int .i64 a, .int .i64 b, .int .i64 c, .int .i64 d, .slice A n k]] w fun e w' => e = .returned (.bool (decide (n ≤ 70))) ∧ Below w.heap.size w w' := by
  unfold maxLen at hm
  have L := Lib.hid ((fun h => Kp.ad50 h w.heap.size rfl (.int .i64 a) (.int .i64 b) (.int .i64 c) (.int .i64 d) (.slice A n k) 26) ⟨Nat.le_refl _, Below.refl w.heap.size w⟩)
  by_cases h : n ≤ 70
  · have h' : (n : Int) ≤ 70 := by omega
    rw [decide_eq_true h]
    clear h
    go_enter Try.func7, Try.ntmps7
    go_wp2_with fail
    go_ret
    exact ⟨rfl, L.out.2.2.2.2.2.2⟩
  · have h' := decide_eq_false (show ¬ (n : Int) ≤ 70 by omega)
    rw [decide_eq_false h]
    clear h
    go_enter Try.func7, Try.ntmps7
    go_wp2_with fail
    go_ret
    exact ⟨rfl, L.out.2.2.2.2.2.2⟩
theorem has_no (a b c d : Int) (A : Option Addr) (k : Nat) (w : World) : Calls Try.prog 23 #[.agg #[.int .i64 a, .int .i64 b, .int .i64 c, .int .i64 d, .slice A 0 k]] w fun e w' => e = .returned (.bool false) ∧ Below w.heap.size w w' := by
  have L := Lib.hid ((fun h => Kp.ad50 h w.heap.size rfl (.int .i64 a) (.int .i64 b) (.int .i64 c) (.int .i64 d) (.slice A 0 k) 26) ⟨Nat.le_refl _, Below.refl w.heap.size w⟩)
  go_enter Try.func23, Try.ntmps23
  go_wp2_with fail
  go_ret
  exact ⟨by simp, L.out.2.2.2.2.2.2⟩
theorem has_yes (a b c d : Int) (A : Option Addr) (n k : Nat) (w : World) (h : 0 < n) (hm : n ≤ 70) : Calls Try.prog 23 #[.agg #[.int .i64 a, .int .i64 b, .int .i64 c, .int .i64 d, .slice A n k]] w fun e w' => e = .returned (.bool true) ∧ Below w.heap.size w w' := by
  have L := Lib.hid ((fun h => Kp.ad50 h w.heap.size rfl (.int .i64 a) (.int .i64 b) (.int .i64 c) (.int .i64 d) (.slice A n k) 26) ⟨Nat.le_refl _, Below.refl w.heap.size w⟩)
  have h' : (0 : Int) < (n : Int) := by omega
  go_enter Try.func23, Try.ntmps23
  go_wp2_with fail
  go_ret
  exact ⟨rfl, L.out.2.2.2.2.2.2⟩

theorem may_no (a b c d : Int) (A : Option Addr) (k : Nat) (w : World) : Calls Try.prog 10 #[.agg #[.int .i64 a, .int .i64 b, .int .i64 c, .int .i64 d, .slice A 0 k]] w fun e w' => e = .returned (.bool (rmayB a b c d)) ∧ Below w.heap.size w w' := by
  have L := Lib.hid ((fun h => Kp.ad50 h w.heap.size rfl (.int .i64 a) (.int .i64 b) (.int .i64 c) (.int .i64 d) (.slice A 0 k) 26) ⟨Nat.le_refl _, Below.refl w.heap.size w⟩)
  have z := L.out
  go_enter Try.func10, Try.ntmps10
  go_wp2_with fail
  refine (has_no a b c d A k _).mono ?_
  rintro e w1 ⟨rfl, hb1⟩
  have K1 := Lib.hid ((Kp.two hb1 (Kp.two hb1 (Kp.one hb1 (Kp.ends hb1)))) L.out)
  have z1 := K1.out
  clear hb1 z L
  go_wp2_with fail
  refine (rmay_any a b c d _).mono ?_
  rintro e w2 ⟨rfl, hb2⟩
  have K2 := Lib.hid ((Kp.two hb2 (Kp.two hb2 (Kp.one hb2 (Kp.ends hb2)))) K1.out)
  have z2 := K2.out
  clear hb2 z1 K1
  go_wp2_with fail
  go_ret
  exact ⟨rfl, K2.out.2.2.2.2.2.2⟩
set_option maxHeartbeats 1000000 in
theorem may_yes (a b c d : Int) (l : List Pnt) (A : Option Addr) (k : Nat) (w : World) (hA : PtsAt w w.heap.size A l) (h0 : 0 < l.length) (hn : l.length ≤ 70) :
    Calls Try.prog 10 #[.agg #[.int .i64 a, .int .i64 b, .int .i64 c, .int .i64 d, .slice A l.length k]] w fun e w' => e = .returned (.bool (rz a b c d && simpleB l)) ∧ Below w.heap.size w w' := by
  have C := Lib.hid (fun W (h : Below w.heap.size w W) => simple_any l A k W ((hA.later h).wide h.size) hn)
  obtain ⟨n, e⟩ : ∃ n, n = l.length := ⟨_, rfl⟩
  rw [← e] at C h0 hn ⊢
  clear e hA
  have q := eql_rect
  have L := Lib.hid ((fun h => Kp.ad50 h w.heap.size rfl (.int .i64 a) (.int .i64 b) (.int .i64 c) (.int .i64 d) (.slice A n k) 26) ⟨Nat.le_refl _, Below.refl w.heap.size w⟩)
  have z := L.out
  have h' : (0 : Int) < (n : Int) := by omega
  have h2 : ¬ (n : Int) = 0 := by omega
  have e0 := eq4_zero a b c d
  cases hz : rz a b c d
  · rw [hz] at e0
    go_enter Try.func10, Try.ntmps10
    go_wp2_with fail
    refine (has_yes a b c d A n k _ h0 hn).mono ?_
    rintro e w1 ⟨rfl, hb1⟩
    have K1 := Lib.hid ((Kp.two hb1 (Kp.two hb1 (Kp.one hb1 (Kp.ends hb1)))) L.out)
    have z1 := K1.out
    clear hb1 z L
    go_wp2_with fail
    go_ret
    exact ⟨rfl, K1.out.2.2.2.2.2.2⟩
  · rw [hz] at e0
    go_enter Try.func10, Try.ntmps10
    go_wp2_with fail
    refine (has_yes a b c d A n k _ h0 hn).mono ?_
    rintro e w1 ⟨rfl, hb1⟩
    have K1 := Lib.hid ((Kp.two hb1 (Kp.two hb1 (Kp.one hb1 (Kp.ends hb1)))) L.out)
    have z1 := K1.out
    clear hb1 z L
    go_wp2_with fail
    refine (C.out _ K1.out.2.2.2.2.2.2).mono ?_
    rintro e w2 ⟨rfl, hb2⟩
    have K2 := Lib.hid ((Kp.two hb2 (Kp.two hb2 (Kp.one hb2 (Kp.ends hb2)))) K1.out)
    have z2 := K2.out
    clear hb2 z1 K1
    go_wp2_with fail
    go_ret
    exact ⟨by simp, K2.out.2.2.2.2.2.2⟩
theorem may_any (a b c d : Int) (l : List Pnt) (A : Option Addr) (k : Nat) (w : World) (hA : PtsAt w w.heap.size A l) (hn : l.length ≤ 70) :
    Calls Try.prog 10 #[.agg #[.int .i64 a, .int .i64 b, .int .i64 c, .int .i64 d, .slice A l.length k]] w fun e w' => e = .returned (.bool (rgB a b c d l)) ∧ Below w.heap.size w w' := by
  rcases Nat.eq_zero_or_pos l.length with h | h
  · rw [rgB_no h, h]
    exact may_no a b c d A k w
  · rw [rgB_yes h]
    exact may_yes a b c d l A k w hA h hn

theorem refRegion_no (a b c d : Int) (A : Option Addr) (k : Nat) (w : World) : Calls Try.prog 8 #[.agg #[.int .i64 a, .int .i64 b, .int .i64 c, .int .i64 d, .slice A 0 k]] w fun e w' => e = .returned (.bool (rmayB a b c d)) ∧ Below w.heap.size w w' := by
  have L := Lib.hid ((fun h => Kp.ad50 h w.heap.size rfl (.int .i64 a) (.int .i64 b) (.int .i64 c) (.int .i64 d) (.slice A 0 k) 26) ⟨Nat.le_refl _, Below.refl w.heap.size w⟩)
  have z := L.out
  go_enter Try.func8, Try.ntmps8
  go_wp2_with fail
  refine (refRect_any a b c d _).mono ?_
  rintro e w1 ⟨rfl, hb1⟩
  have K1 := Lib.hid ((Kp.two hb1 (Kp.two hb1 (Kp.one hb1 (Kp.ends hb1)))) L.out)
  have z1 := K1.out
  clear hb1 z L
  go_wp2_with fail
  go_ret
  exact ⟨rfl, K1.out.2.2.2.2.2.2⟩
set_option maxHeartbeats 1000000 in
theorem refRegion_yes (a b c d : Int) (l : List Pnt) (A : Option Addr) (k : Nat) (w : World) (hA : PtsAt w w.heap.size A l) (h0 : 0 < l.length) (hn : l.length ≤ 70) :
    Calls Try.prog 8 #[.agg #[.int .i64 a, .int .i64 b, .int .i64 c, .int .i64 d, .slice A l.length k]] w fun e w' => e = .returned (.bool (rz a b c d && simpleB l)) ∧ Below w.heap.size w w' := by
  have C := Lib.hid (fun W (h : Below w.heap.size w W) => refSimple_any l A k W ((hA.later h).wide h.size) hn)
  obtain ⟨n, e⟩ : ∃ n, n = l.length := ⟨_, rfl⟩
  rw [← e] at C h0 hn ⊢
  clear e hA
  have q := eql_rect
  have L := Lib.hid ((fun h => Kp.ad50 h w.heap.size rfl (.int .i64 a) (.int .i64 b) (.int .i64 c) (.int .i64 d) (.slice A n k) 26) ⟨Nat.le_refl _, Below.refl w.heap.size w⟩)
  have z := L.out
  have h' : (0 : Int) < (n : Int) := by omega
  have h2 : ¬ (n : Int) = 0 := by omega
  have e0 := eq4_zero a b c d
  cases hs : simpleB l
  · rw [hs] at C
    go_enter Try.func8, Try.ntmps8
    go_wp2_with fail
    refine (C.out _ L.out.2.2.2.2.2.2).mono ?_
    rintro e w1 ⟨rfl, hb1⟩
    have K1 := Lib.hid ((Kp.two hb1 (Kp.two hb1 (Kp.one hb1 (Kp.ends hb1)))) L.out)
    have z1 := K1.out
    clear hb1 z L
    go_wp2_with fail
    go_ret
    exact ⟨by simp, K1.out.2.2.2.2.2.2⟩
  · rw [hs] at C
    go_enter Try.func8, Try.ntmps8
    go_wp2_with fail
    refine (C.out _ L.out.2.2.2.2.2.2).mono ?_
    rintro e w1 ⟨rfl, hb1⟩
    have K1 := Lib.hid ((Kp.two hb1 (Kp.two hb1 (Kp.one hb1 (Kp.ends hb1)))) L.out)
    have z1 := K1.out
    clear hb1 z L
    go_wp2_with fail
    go_ret
    exact ⟨by simp [*], K1.out.2.2.2.2.2.2⟩
theorem refRegion_any (a b c d : Int) (l : List Pnt) (A : Option Addr) (k : Nat) (w : World) (hA : PtsAt w w.heap.size A l) (hn : l.length ≤ 70) :
    Calls Try.prog 8 #[.agg #[.int .i64 a, .int .i64 b, .int .i64 c, .int .i64 d, .slice A l.length k]] w fun e w' => e = .returned (.bool (rgB a b c d l)) ∧ Below w.heap.size w w' := by
  rcases Nat.eq_zero_or_pos l.length with h | h
  · rw [rgB_no h, h]
    exact refRegion_no a b c d A k w
  · rw [rgB_yes h]
    exact refRegion_yes a b c d l A k w hA h hn
end Go.Proofs.Ytiggjaodfmelpaa.Rg
