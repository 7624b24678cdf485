/-
  Contracts of In of layer 16 (region), and of the document's In. Memory that was there is left as it was.
-/
import Derived.Test.YtiggjaodfmelpaaRgBox
namespace Go.Proofs.Ytiggjaodfmelpaa.Rg
open Go.RowKit Go.Proofs.Ytiggjaodfmelpaa.Pt Go.Proofs.Ytiggjaodfmelpaa.Rc Go.Proofs.Ytiggjaodfmelpaa.Pts Go.Proofs.Ytiggjaodfmelpaa.Pl
set_option linter.unusedVariables false

set_option maxHeartbeats 1000000 in
theorem rin_bad (a b c d : Int) (l : List Pnt) (A : Option Addr) (k : Nat) (p : Pnt) (w : World) (hA : PtsAt w w.heap.size A l) (hn : l.length ≤ 70) (hg : rgB a b c d l = false) :
    Calls Try.prog 13 #[.agg #[.int .i64 a, .int .i64 b, .int .i64 c, .int .i64 d, .slice A l.length k], .agg #[.int .i64 p.1, .int .i64 p.2]] w fun e w' => e = .returned (.bool false) ∧ Below w.heap.size w w' := by
  have C1 := Lib.hid (fun W (h : Below w.heap.size w W) => may_any a b c d l A k W ((hA.later h).wide h.size) hn)
  rw [hg] at C1
  obtain ⟨n, e⟩ : ∃ n, n = l.length := ⟨_, rfl⟩
  rw [← e] at C1 ⊢
  clear e hA hn hg
  have L := Lib.hid ((Kp.two (Kp.behind _ (.cells #[.int .i64 p.1, .int .i64 p.2] 28)) (Kp.two (Kp.behind _ (.cells #[.int .i64 p.1, .int .i64 p.2] 28)) (Kp.one (Kp.behind _ (.cells #[.int .i64 p.1, .int .i64 p.2] 28)) (fun h => Kp.add0 h (w.heap.size + 1) (by simp) (.int .i64 p.1) (.int .i64 p.2) 28)))) ((fun h => Kp.ad50 h w.heap.size rfl (.int .i64 a) (.int .i64 b) (.int .i64 c) (.int .i64 d) (.slice A n k) 26) ⟨Nat.le_refl _, Below.refl w.heap.size w⟩))
  have z := L.out
  go_enter Try.func13, Try.ntmps13
  go_wp2_with fail
  refine (C1.out _ L.out.2.2.2.2.2.2.2.2).mono ?_
  rintro e w1 ⟨rfl, hb1⟩
  have K1 := Lib.hid ((Kp.two hb1 (Kp.two hb1 (Kp.two hb1 (Kp.one hb1 (Kp.ends hb1))))) L.out)
  have z1 := K1.out
  clear hb1 z L
  go_wp2_with fail
  go_ret
  exact ⟨rfl, K1.out.2.2.2.2.2.2.2.2⟩
set_option maxHeartbeats 1000000 in
theorem rin_far (a b c d : Int) (l : List Pnt) (A : Option Addr) (k : Nat) (p : Pnt) (w : World) (hA : PtsAt w w.heap.size A l) (hn : l.length ≤ 70) (hg : rgB a b c d l = true) (hp : mayB p.1 p.2 = false) :
    Calls Try.prog 13 #[.agg #[.int .i64 a, .int .i64 b, .int .i64 c, .int .i64 d, .slice A l.length k], .agg #[.int .i64 p.1, .int .i64 p.2]] w fun e w' => e = .returned (.bool false) ∧ Below w.heap.size w w' := by
  have C1 := Lib.hid (fun W (h : Below w.heap.size w W) => may_any a b c d l A k W ((hA.later h).wide h.size) hn)
  rw [hg] at C1
  obtain ⟨n, e⟩ : ∃ n, n = l.length := ⟨_, rfl⟩
  rw [← e] at C1 ⊢
  clear e hA hn hg
  have L := Lib.hid ((Kp.two (Kp.behind _ (.cells #[.int .i64 p.1, .int .i64 p.2] 28)) (Kp.two (Kp.behind _ (.cells #[.int .i64 p.1, .int .i64 p.2] 28)) (Kp.one (Kp.behind _ (.cells #[.int .i64 p.1, .int .i64 p.2] 28)) (fun h => Kp.add0 h (w.heap.size + 1) (by simp) (.int .i64 p.1) (.int .i64 p.2) 28)))) ((fun h => Kp.ad50 h w.heap.size rfl (.int .i64 a) (.int .i64 b) (.int .i64 c) (.int .i64 d) (.slice A n k) 26) ⟨Nat.le_refl _, Below.refl w.heap.size w⟩))
  have z := L.out
  go_enter Try.func13, Try.ntmps13
  go_wp2_with fail
  refine (C1.out _ L.out.2.2.2.2.2.2.2.2).mono ?_
  rintro e w1 ⟨rfl, hb1⟩
  have K1 := Lib.hid ((Kp.two hb1 (Kp.two hb1 (Kp.two hb1 (Kp.one hb1 (Kp.ends hb1))))) L.out)
  have z1 := K1.out
  clear hb1 z L
  go_wp2_with fail
  refine (Pt.may_any _ _ _).mono ?_
  rintro e w2 ⟨rfl, hb2⟩
  have K2 := Lib.hid ((Kp.two hb2 (Kp.two hb2 (Kp.two hb2 (Kp.one hb2 (Kp.ends hb2))))) K1.out)
  have z2 := K2.out
  clear hb2 z1 K1
  go_wp2_with fail
  go_ret
  exact ⟨rfl, K2.out.2.2.2.2.2.2.2.2⟩
set_option maxHeartbeats 1000000 in
theorem rin_rect (a b c d : Int) (A : Option Addr) (k : Nat) (p : Pnt) (w : World) (hg : rmayB a b c d = true) (hp : mayB p.1 p.2 = true) :
    Calls Try.prog 13 #[.agg #[.int .i64 a, .int .i64 b, .int .i64 c, .int .i64 d, .slice A 0 k], .agg #[.int .i64 p.1, .int .i64 p.2]] w fun e w' => e = .returned (.bool (inB a b c d p.1 p.2)) ∧ Below w.heap.size w w' := by
  have C1 := Lib.hid (fun W => may_no a b c d A k W)
  rw [hg] at C1
  clear hg
  have L := Lib.hid ((Kp.two (Kp.behind _ (.cells #[.int .i64 p.1, .int .i64 p.2] 28)) (Kp.two (Kp.behind _ (.cells #[.int .i64 p.1, .int .i64 p.2] 28)) (Kp.one (Kp.behind _ (.cells #[.int .i64 p.1, .int .i64 p.2] 28)) (fun h => Kp.add0 h (w.heap.size + 1) (by simp) (.int .i64 p.1) (.int .i64 p.2) 28)))) ((fun h => Kp.ad50 h w.heap.size rfl (.int .i64 a) (.int .i64 b) (.int .i64 c) (.int .i64 d) (.slice A 0 k) 26) ⟨Nat.le_refl _, Below.refl w.heap.size w⟩))
  have z := L.out
  go_enter Try.func13, Try.ntmps13
  go_wp2_with fail
  refine (C1.out _).mono ?_
  rintro e w1 ⟨rfl, hb1⟩
  have K1 := Lib.hid ((Kp.two hb1 (Kp.two hb1 (Kp.two hb1 (Kp.one hb1 (Kp.ends hb1))))) L.out)
  have z1 := K1.out
  clear hb1 z L
  go_wp2_with fail
  refine (Pt.may_any _ _ _).mono ?_
  rintro e w2 ⟨rfl, hb2⟩
  have K2 := Lib.hid ((Kp.two hb2 (Kp.two hb2 (Kp.two hb2 (Kp.one hb2 (Kp.ends hb2))))) K1.out)
  have z2 := K2.out
  clear hb2 z1 K1
  go_wp2_with fail
  refine (has_no a b c d A k _).mono ?_
  rintro e w3 ⟨rfl, hb3⟩
  have K3 := Lib.hid ((Kp.two hb3 (Kp.two hb3 (Kp.two hb3 (Kp.one hb3 (Kp.ends hb3))))) K2.out)
  have z3 := K3.out
  clear hb3 z2 K2
  go_wp2_with fail
  refine (in_any a b c d p.1 p.2 _).mono ?_
  rintro e w4 ⟨rfl, hb4⟩
  have K4 := Lib.hid ((Kp.two hb4 (Kp.two hb4 (Kp.two hb4 (Kp.one hb4 (Kp.ends hb4))))) K3.out)
  have z4 := K4.out
  clear hb4 z3 K3
  go_wp2_with fail
  go_ret
  exact ⟨rfl, K4.out.2.2.2.2.2.2.2.2⟩
set_option maxHeartbeats 1000000 in
theorem rin_poly (a b c d : Int) (l : List Pnt) (A : Option Addr) (k : Nat) (p : Pnt) (w : World) (hA : PtsAt w w.heap.size A l) (h0 : 0 < l.length) (hn : l.length ≤ 70) (hg : rgB a b c d l = true) (hp : mayB p.1 p.2 = true) :
    Calls Try.prog 13 #[.agg #[.int .i64 a, .int .i64 b, .int .i64 c, .int .i64 d, .slice A l.length k], .agg #[.int .i64 p.1, .int .i64 p.2]] w fun e w' => e = .returned (.bool (insB l p)) ∧ Below w.heap.size w w' := by
  have C1 := Lib.hid (fun W (h : Below w.heap.size w W) => may_any a b c d l A k W ((hA.later h).wide h.size) hn)
  rw [hg] at C1
  have hm := (simpleB_all (rgB_simple h0 hg).2).1
  have C2 := Lib.hid (fun W (h : Below w.heap.size w W) => polyIn_any l A k p W ((hA.later h).wide h.size) h0 hn hm hp)
  obtain ⟨n, e⟩ : ∃ n, n = l.length := ⟨_, rfl⟩
  rw [← e] at C1 C2 h0 hn ⊢
  clear e hA hg hm
  have h2 : ¬ (n : Int) = 0 := by omega
  have L := Lib.hid ((Kp.two (Kp.behind _ (.cells #[.int .i64 p.1, .int .i64 p.2] 28)) (Kp.two (Kp.behind _ (.cells #[.int .i64 p.1, .int .i64 p.2] 28)) (Kp.one (Kp.behind _ (.cells #[.int .i64 p.1, .int .i64 p.2] 28)) (fun h => Kp.add0 h (w.heap.size + 1) (by simp) (.int .i64 p.1) (.int .i64 p.2) 28)))) ((fun h => Kp.ad50 h w.heap.size rfl (.int .i64 a) (.int .i64 b) (.int .i64 c) (.int .i64 d) (.slice A n k) 26) ⟨Nat.le_refl _, Below.refl w.heap.size w⟩))
  have z := L.out
  go_enter Try.func13, Try.ntmps13
  go_wp2_with fail
  refine (C1.out _ L.out.2.2.2.2.2.2.2.2).mono ?_
  rintro e w1 ⟨rfl, hb1⟩
  have K1 := Lib.hid ((Kp.two hb1 (Kp.two hb1 (Kp.two hb1 (Kp.one hb1 (Kp.ends hb1))))) L.out)
  have z1 := K1.out
  clear hb1 z L
  go_wp2_with fail
  refine (Pt.may_any _ _ _).mono ?_
  rintro e w2 ⟨rfl, hb2⟩
  have K2 := Lib.hid ((Kp.two hb2 (Kp.two hb2 (Kp.two hb2 (Kp.one hb2 (Kp.ends hb2))))) K1.out)
  have z2 := K2.out
  clear hb2 z1 K1
  go_wp2_with fail
  refine (has_yes a b c d A n k _ h0 hn).mono ?_
  rintro e w3 ⟨rfl, hb3⟩
  have K3 := Lib.hid ((Kp.two hb3 (Kp.two hb3 (Kp.two hb3 (Kp.one hb3 (Kp.ends hb3))))) K2.out)
  have z3 := K3.out
  clear hb3 z2 K2
  go_wp2_with fail
  refine (C2.out _ K3.out.2.2.2.2.2.2.2.2).mono ?_
  rintro e w4 ⟨rfl, hb4⟩
  have K4 := Lib.hid ((Kp.two hb4 (Kp.two hb4 (Kp.two hb4 (Kp.one hb4 (Kp.ends hb4))))) K3.out)
  have z4 := K4.out
  clear hb4 z3 K3
  go_wp2_with fail
  go_ret
  exact ⟨rfl, K4.out.2.2.2.2.2.2.2.2⟩
theorem rin_any (a b c d : Int) (l : List Pnt) (A : Option Addr) (k : Nat) (p : Pnt) (w : World) (hA : PtsAt w w.heap.size A l) (hn : l.length ≤ 70) :
    Calls Try.prog 13 #[.agg #[.int .i64 a, .int .i64 b, .int .i64 c, .int .i64 d, .slice A l.length k], .agg #[.int .i64 p.1, .int .i64 p.2]] w fun e w' => e = .returned (.bool (rgI a b c d l p)) ∧ Below w.heap.size w w' := by
  unfold rgI pmay
  cases hg : rgB a b c d l
  · exact rin_bad a b c d l A k p w hA hn hg
  · cases hp : mayB p.1 p.2
    · exact rin_far a b c d l A k p w hA hn hg hp
    · rcases Nat.eq_zero_or_pos l.length with h | h
      · rw [if_pos h, h]
        rw [rgB_no h] at hg
        exact rin_rect a b c d A k p w hg hp
      · rw [if_neg (by omega)]
        exact rin_poly a b c d l A k p w hA h hn hg hp
set_option maxHeartbeats 1000000 in
theorem refRin_bad (a b c d : Int) (l : List Pnt) (A : Option Addr) (k : Nat) (p : Pnt) (w : World) (hA : PtsAt w w.heap.size A l) (hn : l.length ≤ 70) (hg : rgB a b c d l = false) :
    Calls Try.prog 14 #[.agg #[.int .i64 a, .int .i64 b, .int .i64 c, .int .i64 d, .slice A l.length k], .agg #[.int .i64 p.1, .int .i64 p.2]] w fun e w' => e = .returned (.bool false) ∧ Below w.heap.size w w' := by
  have C1 := Lib.hid (fun W (h : Below w.heap.size w W) => refRegion_any a b c d l A k W ((hA.later h).wide h.size) hn)
  rw [hg] at C1
  obtain ⟨n, e⟩ : ∃ n, n = l.length := ⟨_, rfl⟩
  rw [← e] at C1 ⊢
  clear e hA hn hg
  have L := Lib.hid ((Kp.two (Kp.behind _ (.cells #[.int .i64 p.1, .int .i64 p.2] 28)) (Kp.two (Kp.behind _ (.cells #[.int .i64 p.1, .int .i64 p.2] 28)) (Kp.one (Kp.behind _ (.cells #[.int .i64 p.1, .int .i64 p.2] 28)) (fun h => Kp.add0 h (w.heap.size + 1) (by simp) (.int .i64 p.1) (.int .i64 p.2) 28)))) ((fun h => Kp.ad50 h w.heap.size rfl (.int .i64 a) (.int .i64 b) (.int .i64 c) (.int .i64 d) (.slice A n k) 26) ⟨Nat.le_refl _, Below.refl w.heap.size w⟩))
  have z := L.out
  go_enter Try.func14, Try.ntmps14
  go_wp2_with fail
  refine (C1.out _ L.out.2.2.2.2.2.2.2.2).mono ?_
  rintro e w1 ⟨rfl, hb1⟩
  have K1 := Lib.hid ((Kp.two hb1 (Kp.two hb1 (Kp.two hb1 (Kp.one hb1 (Kp.ends hb1))))) L.out)
  have z1 := K1.out
  clear hb1 z L
  go_wp2_with fail
  refine (refMay_any _ _ _).mono ?_
  rintro e w2 ⟨rfl, hb2⟩
  have K2 := Lib.hid ((Kp.two hb2 (Kp.two hb2 (Kp.two hb2 (Kp.one hb2 (Kp.ends hb2))))) K1.out)
  have z2 := K2.out
  clear hb2 z1 K1
  go_wp2_with fail
  go_ret
  exact ⟨rfl, K2.out.2.2.2.2.2.2.2.2⟩
set_option maxHeartbeats 1000000 in
theorem refRin_far (a b c d : Int) (l : List Pnt) (A : Option Addr) (k : Nat) (p : Pnt) (w : World) (hA : PtsAt w w.heap.size A l) (hn : l.length ≤ 70) (hg : rgB a b c d l = true) (hp : mayB p.1 p.2 = false) :
    Calls Try.prog 14 #[.agg #[.int .i64 a, .int .i64 b, .int .i64 c, .int .i64 d, .slice A l.length k], .agg #[.int .i64 p.1, .int .i64 p.2]] w fun e w' => e = .returned (.bool false) ∧ Below w.heap.size w w' := by
  have C1 := Lib.hid (fun W (h : Below w.heap.size w W) => refRegion_any a b c d l A k W ((hA.later h).wide h.size) hn)
  rw [hg] at C1
  obtain ⟨n, e⟩ : ∃ n, n = l.length := ⟨_, rfl⟩
  rw [← e] at C1 ⊢
  clear e hA hn hg
  have L := Lib.hid ((Kp.two (Kp.behind _ (.cells #[.int .i64 p.1, .int .i64 p.2] 28)) (Kp.two (Kp.behind _ (.cells #[.int .i64 p.1, .int .i64 p.2] 28)) (Kp.one (Kp.behind _ (.cells #[.int .i64 p.1, .int .i64 p.2] 28)) (fun h => Kp.add0 h (w.heap.size + 1) (by simp) (.int .i64 p.1) (.int .i64 p.2) 28)))) ((fun h => Kp.ad50 h w.heap.size rfl (.int .i64 a) (.int .i64 b) (.int .i64 c) (.int .i64 d) (.slice A n k) 26) ⟨Nat.le_refl _, Below.refl w.heap.size w⟩))
  have z := L.out
  go_enter Try.func14, Try.ntmps14
  go_wp2_with fail
  refine (C1.out _ L.out.2.2.2.2.2.2.2.2).mono ?_
  rintro e w1 ⟨rfl, hb1⟩
  have K1 := Lib.hid ((Kp.two hb1 (Kp.two hb1 (Kp.two hb1 (Kp.one hb1 (Kp.ends hb1))))) L.out)
  have z1 := K1.out
  clear hb1 z L
  go_wp2_with fail
  refine (refMay_any _ _ _).mono ?_
  rintro e w2 ⟨rfl, hb2⟩
  have K2 := Lib.hid ((Kp.two hb2 (Kp.two hb2 (Kp.two hb2 (Kp.one hb2 (Kp.ends hb2))))) K1.out)
  have z2 := K2.out
  clear hb2 z1 K1
  go_wp2_with fail
  go_ret
  exact ⟨rfl, K2.out.2.2.2.2.2.2.2.2⟩
set_option maxHeartbeats 1000000 in
theorem refRin_rect (a b c d : Int) (A : Option Addr) (k : Nat) (p : Pnt) (w : World) (hg : rmayB a b c d = true) (hp : mayB p.1 p.2 = true) :
    Calls Try.prog 14 #[.agg #[.int .i64 a, .int .i64 b, .int .i64 c, .int .i64 d, .slice A 0 k], .agg #[.int .i64 p.1, .int .i64 p.2]] w fun e w' => e = .returned (.bool (inB a b c d p.1 p.2)) ∧ Below w.heap.size w w' := by
  have C1 := Lib.hid (fun W => refRegion_no a b c d A k W)
  rw [hg] at C1
  clear hg
  have L := Lib.hid ((Kp.two (Kp.behind _ (.cells #[.int .i64 p.1, .int .i64 p.2] 28)) (Kp.two (Kp.behind _ (.cells #[.int .i64 p.1, .int .i64 p.2] 28)) (Kp.one (Kp.behind _ (.cells #[.int .i64 p.1, .int .i64 p.2] 28)) (fun h => Kp.add0 h (w.heap.size + 1) (by simp) (.int .i64 p.1) (.int .i64 p.2) 28)))) ((fun h => Kp.ad50 h w.heap.size rfl (.int .i64 a) (.int .i64 b) (.int .i64 c) (.int .i64 d) (.slice A 0 k) 26) ⟨Nat.le_refl _, Below.refl w.heap.size w⟩))
  have z := L.out
  go_enter Try.func14, Try.ntmps14
  go_wp2_with fail
  refine (C1.out _).mono ?_
  rintro e w1 ⟨rfl, hb1⟩
  have K1 := Lib.hid ((Kp.two hb1 (Kp.two hb1 (Kp.two hb1 (Kp.one hb1 (Kp.ends hb1))))) L.out)
  have z1 := K1.out
  clear hb1 z L
  go_wp2_with fail
  refine (refMay_any _ _ _).mono ?_
  rintro e w2 ⟨rfl, hb2⟩
  have K2 := Lib.hid ((Kp.two hb2 (Kp.two hb2 (Kp.two hb2 (Kp.one hb2 (Kp.ends hb2))))) K1.out)
  have z2 := K2.out
  clear hb2 z1 K1
  go_wp2_with fail
  refine (refIn_any a b c d p.1 p.2 _).mono ?_
  rintro e w3 ⟨rfl, hb3⟩
  have K3 := Lib.hid ((Kp.two hb3 (Kp.two hb3 (Kp.two hb3 (Kp.one hb3 (Kp.ends hb3))))) K2.out)
  have z3 := K3.out
  clear hb3 z2 K2
  go_wp2_with fail
  go_ret
  exact ⟨rfl, K3.out.2.2.2.2.2.2.2.2⟩
set_option maxHeartbeats 1000000 in
theorem refRin_poly (a b c d : Int) (l : List Pnt) (A : Option Addr) (k : Nat) (p : Pnt) (w : World) (hA : PtsAt w w.heap.size A l) (h0 : 0 < l.length) (hn : l.length ≤ 70) (hg : rgB a b c d l = true) (hp : mayB p.1 p.2 = true) :
    Calls Try.prog 14 #[.agg #[.int .i64 a, .int .i64 b, .int .i64 c, .int .i64 d, .slice A l.length k], .agg #[.int .i64 p.1, .int .i64 p.2]] w fun e w' => e = .returned (.bool (insB l p)) ∧ Below w.heap.size w w' := by
  have C1 := Lib.hid (fun W (h : Below w.heap.size w W) => refRegion_any a b c d l A k W ((hA.later h).wide h.size) hn)
  rw [hg] at C1
  have hm := (simpleB_all (rgB_simple h0 hg).2).1
  have C2 := Lib.hid (fun W (h : Below w.heap.size w W) => inside_any l A k p W ((hA.later h).wide h.size) h0 hn hm hp)
  obtain ⟨n, e⟩ : ∃ n, n = l.length := ⟨_, rfl⟩
  rw [← e] at C1 C2 h0 hn ⊢
  clear e hA hg hm
  have h2 : ¬ (n : Int) = 0 := by omega
  have L := Lib.hid ((Kp.two (Kp.behind _ (.cells #[.int .i64 p.1, .int .i64 p.2] 28)) (Kp.two (Kp.behind _ (.cells #[.int .i64 p.1, .int .i64 p.2] 28)) (Kp.one (Kp.behind _ (.cells #[.int .i64 p.1, .int .i64 p.2] 28)) (fun h => Kp.add0 h (w.heap.size + 1) (by simp) (.int .i64 p.1) (.int .i64 p.2) 28)))) ((fun h => Kp.ad50 h w.heap.size rfl (.int .i64 a) (.int .i64 b) (.int .i64 c) (.int .i64 d) (.slice A n k) 26) ⟨Nat.le_refl _, Below.refl w.heap.size w⟩))
  have z := L.out
  go_enter Try.func14, Try.ntmps14
  go_wp2_with fail
  refine (C1.out _ L.out.2.2.2.2.2.2.2.2).mono ?_
  rintro e w1 ⟨rfl, hb1⟩
  have K1 := Lib.hid ((Kp.two hb1 (Kp.two hb1 (Kp.two hb1 (Kp.one hb1 (Kp.ends hb1))))) L.out)
  have z1 := K1.out
  clear hb1 z L
  go_wp2_with fail
  refine (refMay_any _ _ _).mono ?_
  rintro e w2 ⟨rfl, hb2⟩
  have K2 := Lib.hid ((Kp.two hb2 (Kp.two hb2 (Kp.two hb2 (Kp.one hb2 (Kp.ends hb2))))) K1.out)
  have z2 := K2.out
  clear hb2 z1 K1
  go_wp2_with fail
  refine (C2.out _ K2.out.2.2.2.2.2.2.2.2).mono ?_
  rintro e w3 ⟨rfl, hb3⟩
  have K3 := Lib.hid ((Kp.two hb3 (Kp.two hb3 (Kp.two hb3 (Kp.one hb3 (Kp.ends hb3))))) K2.out)
  have z3 := K3.out
  clear hb3 z2 K2
  go_wp2_with fail
  go_ret
  exact ⟨rfl, K3.out.2.2.2.2.2.2.2.2⟩
theorem refRin_any (a b c d : Int) (l : List Pnt) (A : Option Addr) (k : Nat) (p : Pnt) (w : World) (hA : PtsAt w w.heap.size A l) (hn : l.length ≤ 70) :
    Calls Try.prog 14 #[.agg #[.int .i64 a, .int .i64 b, .int .i64 c, .int .i64 d, .slice A l.length k], .agg #[.int .i64 p.1, .int .i64 p.2]] w fun e w' => e = .returned (.bool (rgI a b c d l p)) ∧ Below w.heap.size w w' := by
  unfold rgI pmay
  cases hg : rgB a b c d l
  · exact refRin_bad a b c d l A k p w hA hn hg
  · cases hp : mayB p.1 p.2
    · exact refRin_far a b c d l A k p w hA hn hg hp
    · rcases Nat.eq_zero_or_pos l.length with h | h
      · rw [if_pos h, h]
        rw [rgB_no h] at hg
        exact refRin_rect a b c d A k p w hg hp
      · rw [if_neg (by omega)]
        exact refRin_poly a b c d l A k p w hA h hn hg hp
end Go.Proofs.Ytiggjaodfmelpaa.Rg
