/-
  The walk of the statement RegionTells: whatever regions and point it is given, it returns true, and memory that was there is left as it was.
-/
import Derived.Test.YtiggjaodfmelpaaRgUp
import Derived.Test.YtiggjaodfmelpaaRgSame
import Derived.Test.YtiggjaodfmelpaaRgMoved
namespace Go.Proofs.Ytiggjaodfmelpaa.Rg
open Go.RowKit Go.Proofs.Ytiggjaodfmelpaa.Pt Go.Proofs.Ytiggjaodfmelpaa.Rc Go.Proofs.Ytiggjaodfmelpaa.Pts Go.Proofs.Ytiggjaodfmelpaa.Pl
set_option linter.unusedVariables false
set_option linter.unusedSimpArgs false

set_option maxHeartbeats 2000000 in
theorem tells_far (a b c d : Int) (A : Option Addr) (n k : Nat) (a2 b2 c2 d2 : Int) (B : Option Addr) (n2 k2 : Nat) (p : Pnt) (w : World) (hm : n ≤ maxLen) (hm2 : n2 ≤ maxLen) (h : (decide (n ≤ 70) && decide (n2 ≤ 70)) = false) :
    Calls Try.prog 3 #[.agg #[.int .i64 a, .int .i64 b, .int .i64 c, .int .i64 d, .slice A n k], .agg #[.int .i64 a2, .int .i64 b2, .int .i64 c2, .int .i64 d2, .slice B n2 k2], .agg #[.int .i64 p.1, .int .i64 p.2]] w fun e w' => e = .returned (.bool true) ∧ Below w.heap.size w w' := by
  have D1 := Lib.hid (fun W => few_any a b c d A n k W hm)
  have D2 := Lib.hid (fun W => few_any a2 b2 c2 d2 B n2 k2 W hm2)
  obtain ⟨f1, e1⟩ : ∃ f, f = decide (n ≤ 70) := ⟨_, rfl⟩
  obtain ⟨f2, e2⟩ : ∃ f, f = decide (n2 ≤ 70) := ⟨_, rfl⟩
  rw [← e1] at D1 h
  rw [← e2] at D2 h
  clear e1 e2 hm hm2
  cases f1
  · have L0 := (fun h => Kp.ad50 h w.heap.size rfl (.int .i64 a) (.int .i64 b) (.int .i64 c) (.int .i64 d) (.slice A n k) 26) ⟨Nat.le_refl _, Below.refl w.heap.size w⟩
    have L1 := (Kp.two (Kp.behind _ (.cells #[.int .i64 a2, .int .i64 b2, .int .i64 c2, .int .i64 d2, .slice B n2 k2] 26)) (Kp.two (Kp.behind _ (.cells #[.int .i64 a2, .int .i64 b2, .int .i64 c2, .int .i64 d2, .slice B n2 k2] 26)) (Kp.one (Kp.behind _ (.cells #[.int .i64 a2, .int .i64 b2, .int .i64 c2, .int .i64 d2, .slice B n2 k2] 26)) (fun h => Kp.ad50 h (w.heap.size + 1) (by simp) (.int .i64 a2) (.int .i64 b2) (.int .i64 c2) (.int .i64 d2) (.slice B n2 k2) 26)))) L0
    have L2 := (Kp.two (Kp.behind _ (.cells #[.int .i64 p.1, .int .i64 p.2] 28)) (Kp.two (Kp.behind _ (.cells #[.int .i64 p.1, .int .i64 p.2] 28)) (Kp.two (Kp.behind _ (.cells #[.int .i64 p.1, .int .i64 p.2] 28)) (Kp.two (Kp.behind _ (.cells #[.int .i64 p.1, .int .i64 p.2] 28)) (Kp.two (Kp.behind _ (.cells #[.int .i64 p.1, .int .i64 p.2] 28)) (fun h => Kp.add0 h (w.heap.size + 1 + 1) (by simp) (.int .i64 p.1) (.int .i64 p.2) 28)))))) L1
    have L := Lib.hid L2
    clear L0 L1 L2
    have z := L.out
    go_enter Try.func3, Try.ntmps3
    go_wp2_with fail
    refine (up_any _).mono ?_
    rintro e w1 ⟨rfl, hb1⟩
    have K1 := Lib.hid ((Kp.two hb1 (Kp.two hb1 (Kp.two hb1 (Kp.two hb1 (Kp.two hb1 (Kp.two hb1 (Kp.ends hb1))))))) L.out)
    clear hb1 z L
    have z1 := K1.out
    go_wp2_with fail
    refine (D1.out _).mono ?_
    rintro e w2 ⟨rfl, hb2⟩
    have K2 := Lib.hid ((Kp.two hb2 (Kp.two hb2 (Kp.two hb2 (Kp.two hb2 (Kp.two hb2 (Kp.two hb2 (Kp.ends hb2))))))) K1.out)
    clear hb2 z1 K1
    have z2 := K2.out
    go_wp2_with fail
    refine (D2.out _).mono ?_
    rintro e w3 ⟨rfl, hb3⟩
    have K3 := Lib.hid ((Kp.two hb3 (Kp.two hb3 (Kp.two hb3 (Kp.two hb3 (Kp.two hb3 (Kp.two hb3 (Kp.ends hb3))))))) K2.out)
    clear hb3 z2 K2
    have z3 := K3.out
    go_wp2_with fail
    go_ret
    exact ⟨rfl, K3.out.2.2.2.2.2.2.2.2.2.2.2.2.2⟩
  · rw [Bool.true_and] at h
    subst h
    have L0 := (fun h => Kp.ad50 h w.heap.size rfl (.int .i64 a) (.int .i64 b) (.int .i64 c) (.int .i64 d) (.slice A n k) 26) ⟨Nat.le_refl _, Below.refl w.heap.size w⟩
    have L1 := (Kp.two (Kp.behind _ (.cells #[.int .i64 a2, .int .i64 b2, .int .i64 c2, .int .i64 d2, .slice B n2 k2] 26)) (Kp.two (Kp.behind _ (.cells #[.int .i64 a2, .int .i64 b2, .int .i64 c2, .int .i64 d2, .slice B n2 k2] 26)) (Kp.one (Kp.behind _ (.cells #[.int .i64 a2, .int .i64 b2, .int .i64 c2, .int .i64 d2, .slice B n2 k2] 26)) (fun h => Kp.ad50 h (w.heap.size + 1) (by simp) (.int .i64 a2) (.int .i64 b2) (.int .i64 c2) (.int .i64 d2) (.slice B n2 k2) 26)))) L0
    have L2 := (Kp.two (Kp.behind _ (.cells #[.int .i64 p.1, .int .i64 p.2] 28)) (Kp.two (Kp.behind _ (.cells #[.int .i64 p.1, .int .i64 p.2] 28)) (Kp.two (Kp.behind _ (.cells #[.int .i64 p.1, .int .i64 p.2] 28)) (Kp.two (Kp.behind _ (.cells #[.int .i64 p.1, .int .i64 p.2] 28)) (Kp.two (Kp.behind _ (.cells #[.int .i64 p.1, .int .i64 p.2] 28)) (fun h => Kp.add0 h (w.heap.size + 1 + 1) (by simp) (.int .i64 p.1) (.int .i64 p.2) 28)))))) L1
    have L := Lib.hid L2
    clear L0 L1 L2
    have z := L.out
    go_enter Try.func3, Try.ntmps3
    go_wp2_with fail
    refine (up_any _).mono ?_
    rintro e w1 ⟨rfl, hb1⟩
    have K1 := Lib.hid ((Kp.two hb1 (Kp.two hb1 (Kp.two hb1 (Kp.two hb1 (Kp.two hb1 (Kp.two hb1 (Kp.ends hb1))))))) L.out)
    clear hb1 z L
    have z1 := K1.out
    go_wp2_with fail
    refine (D1.out _).mono ?_
    rintro e w2 ⟨rfl, hb2⟩
    have K2 := Lib.hid ((Kp.two hb2 (Kp.two hb2 (Kp.two hb2 (Kp.two hb2 (Kp.two hb2 (Kp.two hb2 (Kp.ends hb2))))))) K1.out)
    clear hb2 z1 K1
    have z2 := K2.out
    go_wp2_with fail
    refine (D2.out _).mono ?_
    rintro e w3 ⟨rfl, hb3⟩
    have K3 := Lib.hid ((Kp.two hb3 (Kp.two hb3 (Kp.two hb3 (Kp.two hb3 (Kp.two hb3 (Kp.two hb3 (Kp.ends hb3))))))) K2.out)
    clear hb3 z2 K2
    have z3 := K3.out
    go_wp2_with fail
    go_ret
    exact ⟨rfl, K3.out.2.2.2.2.2.2.2.2.2.2.2.2.2⟩

set_option maxHeartbeats 4000000 in
set_option maxRecDepth 100000 in
theorem tells_bad (a b c d : Int) (l : List Pnt) (A : Option Addr) (k : Nat) (a2 b2 c2 d2 : Int) (l2 : List Pnt) (B : Option Addr) (k2 : Nat) (p : Pnt) (w : World) (hA : PtsAt w w.heap.size A l) (hB : PtsAt w w.heap.size B l2) (hn : l.length ≤ 70) (hn2 : l2.length ≤ 70) (hg : rgB a b c d l = false) :
    Calls Try.prog 3 #[.agg #[.int .i64 a, .int .i64 b, .int .i64 c, .int .i64 d, .slice A l.length k], .agg #[.int .i64 a2, .int .i64 b2, .int .i64 c2, .int .i64 d2, .slice B l2.length k2], .agg #[.int .i64 p.1, .int .i64 p.2]] w fun e w' => e = .returned (.bool true) ∧ Below w.heap.size w w' := by
  have C1 := Lib.hid (fun W (h : Below w.heap.size w W) => refRegion_any a b c d l A k W ((hA.later h).wide h.size) hn)
  have C3 := Lib.hid (fun W (h : Below w.heap.size w W) => may_any a b c d l A k W ((hA.later h).wide h.size) hn)
  have C4 := Lib.hid (fun W (h : Below w.heap.size w W) => same_any a b c d l A k a2 b2 c2 d2 l2 B k2 W ((hA.later h).wide h.size) ((hB.later h).wide h.size) hn)
  have C5 := Lib.hid (fun W (h : Below w.heap.size w W) => regions_any a b c d l A k a2 b2 c2 d2 l2 B k2 W ((hA.later h).wide h.size) ((hB.later h).wide h.size) hn hn2)
  have C6 := Lib.hid (fun W (h : Below w.heap.size w W) => (show Calls Try.prog 11 #[.agg #[.int .i64 a, .int .i64 b, .int .i64 c, .int .i64 d, .slice A l.length k], .agg #[.int .i64 a, .int .i64 b, .int .i64 c, .int .i64 d, .slice A l.length k]] W fun e w' => e = .returned (.bool true) ∧ Below W.heap.size W w' by
    have := same_any a b c d l A k a b c d l A k W ((hA.later h).wide h.size) ((hA.later h).wide h.size) hn
    rw [eq4_self, decide_eq_true rfl] at this
    exact this))
  have C7 := Lib.hid (fun W (h : Below w.heap.size w W) => rin_any a b c d l A k p W ((hA.later h).wide h.size) hn)
  have C8 := Lib.hid (fun W (h : Below w.heap.size w W) => refRin_any a b c d l A k p W ((hA.later h).wide h.size) hn)
  have C2 := Lib.hid (fun W (h : Below w.heap.size w W) => box_bad a b c d l A k W ((hA.later h).wide h.size) hn hg)
  have q4 := eql_arg
  have q5 : ∀ W, (binOp .eql 23 (.agg #[.int .i64 0, .int .i64 0, .int .i64 0, .int .i64 0]) (.agg #[.int .i64 0, .int .i64 0, .int .i64 0, .int .i64 0])).run Try.prog W = .ok (.bool true) W := fun W => by rw [eql_rect, eq4_self]
  rw [hg] at C1 C3
  obtain ⟨sm, es⟩ : ∃ s, s = (eq4 a b c d a2 b2 c2 d2 && decide (l = l2)) := ⟨_, rfl⟩
  rw [← es] at C4 C5
  obtain ⟨ri, ei⟩ : ∃ s, s = rgI a b c d l p := ⟨_, rfl⟩
  rw [← ei] at C7 C8
  obtain ⟨n, e⟩ : ∃ n, n = l.length := ⟨_, rfl⟩
  obtain ⟨n2, e2⟩ : ∃ n, n = l2.length := ⟨_, rfl⟩
  rw [← e, ← e2] at C4 C5
  rw [← e] at C1 C2 C3 C6 C7 C8 hn ⊢
  rw [← e2] at hn2 ⊢
  clear e e2 es ei hA hB hg
  have f1 := decide_eq_true hn
  have f2 := decide_eq_true hn2
  have D1 := Lib.hid (fun W => few_any a b c d A n k W (by unfold maxLen; omega))
  have D2 := Lib.hid (fun W => few_any a2 b2 c2 d2 B n2 k2 W (by unfold maxLen; omega))
  rw [f1] at D1
  rw [f2] at D2
  clear f1 f2
  have L0 := (fun h => Kp.ad50 h w.heap.size rfl (.int .i64 a) (.int .i64 b) (.int .i64 c) (.int .i64 d) (.slice A n k) 26) ⟨Nat.le_refl _, Below.refl w.heap.size w⟩
  have L1 := (Kp.two (Kp.behind _ (.cells #[.int .i64 a2, .int .i64 b2, .int .i64 c2, .int .i64 d2, .slice B n2 k2] 26)) (Kp.two (Kp.behind _ (.cells #[.int .i64 a2, .int .i64 b2, .int .i64 c2, .int .i64 d2, .slice B n2 k2] 26)) (Kp.one (Kp.behind _ (.cells #[.int .i64 a2, .int .i64 b2, .int .i64 c2, .int .i64 d2, .slice B n2 k2] 26)) (fun h => Kp.ad50 h (w.heap.size + 1) (by simp) (.int .i64 a2) (.int .i64 b2) (.int .i64 c2) (.int .i64 d2) (.slice B n2 k2) 26)))) L0
  have L2 := (Kp.two (Kp.behind _ (.cells #[.int .i64 p.1, .int .i64 p.2] 28)) (Kp.two (Kp.behind _ (.cells #[.int .i64 p.1, .int .i64 p.2] 28)) (Kp.two (Kp.behind _ (.cells #[.int .i64 p.1, .int .i64 p.2] 28)) (Kp.two (Kp.behind _ (.cells #[.int .i64 p.1, .int .i64 p.2] 28)) (Kp.two (Kp.behind _ (.cells #[.int .i64 p.1, .int .i64 p.2] 28)) (fun h => Kp.add0 h (w.heap.size + 1 + 1) (by simp) (.int .i64 p.1) (.int .i64 p.2) 28)))))) L1
  have L := Lib.hid L2
  clear L0 L1 L2
  have z := L.out
  go_enter Try.func3, Try.ntmps3
  go_wp2_with fail
  refine (up_any _).mono ?_
  rintro e w1 ⟨rfl, hb1⟩
  have K1 := Lib.hid ((Kp.two hb1 (Kp.two hb1 (Kp.two hb1 (Kp.two hb1 (Kp.two hb1 (Kp.two hb1 (Kp.ends hb1))))))) L.out)
  clear hb1 z L
  have z1 := K1.out
  go_wp2_with fail
  refine (D1.out _).mono ?_
  rintro e w2 ⟨rfl, hb2⟩
  have K2 := Lib.hid ((Kp.two hb2 (Kp.two hb2 (Kp.two hb2 (Kp.two hb2 (Kp.two hb2 (Kp.two hb2 (Kp.ends hb2))))))) K1.out)
  clear hb2 z1 K1
  have z2 := K2.out
  go_wp2_with fail
  refine (D2.out _).mono ?_
  rintro e w3 ⟨rfl, hb3⟩
  have K3 := Lib.hid ((Kp.two hb3 (Kp.two hb3 (Kp.two hb3 (Kp.two hb3 (Kp.two hb3 (Kp.two hb3 (Kp.ends hb3))))))) K2.out)
  clear hb3 z2 K2
  have z3 := K3.out
  go_wp2_with fail
  refine (C1.out _ K3.out.2.2.2.2.2.2.2.2.2.2.2.2.2).mono ?_
  rintro e w4 ⟨rfl, hb4⟩
  have K4 := Lib.hid ((Kp.two hb4 (Kp.two hb4 (Kp.two hb4 (Kp.two hb4 (Kp.two hb4 (Kp.two hb4 (Kp.ends hb4))))))) K3.out)
  clear hb4 z3 K3
  have z4 := K4.out
  go_wp2_with fail
  refine (C2.out _ K4.out.2.2.2.2.2.2.2.2.2.2.2.2.2).mono ?_
  rintro e w5 ⟨rfl, hb5⟩
  have K5 := Lib.hid ((Kp.two hb5 (Kp.two hb5 (Kp.two hb5 (Kp.two hb5 (Kp.two hb5 (Kp.two hb5 (Kp.ends hb5))))))) K4.out)
  clear hb5 z4 K4
  have M5 := Lib.hid ((Kp.two (Kp.behind _ (.cells #[.int .i64 0, .int .i64 0, .int .i64 0, .int .i64 0] 23)) (Kp.two (Kp.behind _ (.cells #[.int .i64 0, .int .i64 0, .int .i64 0, .int .i64 0] 23)) (Kp.two (Kp.behind _ (.cells #[.int .i64 0, .int .i64 0, .int .i64 0, .int .i64 0] 23)) (Kp.two (Kp.behind _ (.cells #[.int .i64 0, .int .i64 0, .int .i64 0, .int .i64 0] 23)) (Kp.two (Kp.behind _ (.cells #[.int .i64 0, .int .i64 0, .int .i64 0, .int .i64 0] 23)) (Kp.two (Kp.behind _ (.cells #[.int .i64 0, .int .i64 0, .int .i64 0, .int .i64 0] 23)) (fun h => Kp.adq0 h w5.heap.size rfl (.int .i64 0) (.int .i64 0) (.int .i64 0) (.int .i64 0) 23))))))) K5.out)
  have y5 := K5.out
  clear K5
  have z5 := M5.out
  go_wp2_with fail
  have HK := M5.out
  refine wp_region_held_drew (S := (fun W => W.cell? ⟨w.heap.size, 0, none⟩ = some (.int .i64 a) ∧ W.cell? ⟨w.heap.size, 1, none⟩ = some (.int .i64 b) ∧ W.cell? ⟨w.heap.size, 2, none⟩ = some (.int .i64 c) ∧ W.cell? ⟨w.heap.size, 3, none⟩ = some (.int .i64 d) ∧ W.cell? ⟨w.heap.size, 4, none⟩ = some (.slice A n k) ∧ W.cell? ⟨w.heap.size + 1, 0, none⟩ = some (.int .i64 a2) ∧ W.cell? ⟨w.heap.size + 1, 1, none⟩ = some (.int .i64 b2) ∧ W.cell? ⟨w.heap.size + 1, 2, none⟩ = some (.int .i64 c2) ∧ W.cell? ⟨w.heap.size + 1, 3, none⟩ = some (.int .i64 d2) ∧ W.cell? ⟨w.heap.size + 1, 4, none⟩ = some (.slice B n2 k2) ∧ W.cell? ⟨w.heap.size + 1 + 1, 0, none⟩ = some (.int .i64 p.1) ∧ W.cell? ⟨w.heap.size + 1 + 1, 1, none⟩ = some (.int .i64 p.2) ∧ W.cell? ⟨w5.heap.size, 0, none⟩ = some (.int .i64 0) ∧ W.cell? ⟨w5.heap.size, 1, none⟩ = some (.int .i64 0) ∧ W.cell? ⟨w5.heap.size, 2, none⟩ = some (.int .i64 0) ∧ W.cell? ⟨w5.heap.size, 3, none⟩ = some (.int .i64 0) ∧ w.heap.size ≤ W.heap.size ∧ Below w.heap.size w W)) (by kernel_rfl) (by exact ⟨HK.1, HK.2.1, HK.2.2.1, HK.2.2.2.1, HK.2.2.2.2.1, HK.2.2.2.2.2.1, HK.2.2.2.2.2.2.1, HK.2.2.2.2.2.2.2.1, HK.2.2.2.2.2.2.2.2.1, HK.2.2.2.2.2.2.2.2.2.1, HK.2.2.2.2.2.2.2.2.2.2.1, HK.2.2.2.2.2.2.2.2.2.2.2.1, HK.2.2.2.2.2.2.2.2.2.2.2.2.1, HK.2.2.2.2.2.2.2.2.2.2.2.2.2.1, HK.2.2.2.2.2.2.2.2.2.2.2.2.2.2.1, HK.2.2.2.2.2.2.2.2.2.2.2.2.2.2.2.1, HK.2.2.2.2.2.2.2.2.2.2.2.2.2.2.2.2.1, HK.2.2.2.2.2.2.2.2.2.2.2.2.2.2.2.2.2.drew⟩) (fun hHeld => ?_)
  refine wpAnyH_take (i := 0) (v := ?v0) rfl (by kernel_rfl) (by kernel_rfl) (by kernel_rfl) (fun _ _ _ h => h) (Or.inl ⟨by rfl, ?y0⟩) hHeld ?r0
  case y0 => (intro W hSw; simp only [List.getElem_toArray, List.getElem_cons_zero]; go_simp; try (with_reducible rfl))
  simp only [List.getElem_toArray, List.getElem_cons_zero, Act.put, List.setIfInBounds_toArray, List.set_cons_zero, List.set_cons_succ]
  refine wpAnyH_take (i := 2) (v := ?v2) rfl (by kernel_rfl) (by kernel_rfl) (by kernel_rfl) (fun _ _ _ h => h) (Or.inl ⟨by rfl, ?y2⟩) hHeld ?r2
  case y2 => (intro W hSw; simp only [List.getElem_toArray, List.getElem_cons_succ, List.getElem_cons_zero]; go_simp; try (with_reducible rfl))
  simp only [List.getElem_toArray, List.getElem_cons_succ, List.getElem_cons_zero, Act.put, List.setIfInBounds_toArray, List.set_cons_zero, List.set_cons_succ]
  refine wpAnyH_ready (rs := [1]) (by kernel_rfl) (by simp) (AllReadyH.cons rfl (fun K hK => ?_) AllReadyH.nil)
  simp only [List.getElem_toArray, List.getElem_cons_succ, List.getElem_cons_zero]
  go_simp
  (go_at_call 10; refine (C3.out _ hHeld.2.2.2.2.2.2.2.2.2.2.2.2.2.2.2.2.2).mono ?_; rintro e w9 ⟨rfl, hb1⟩)
  try go_wp2_with fail
  refine hK.out _ _ ((Kp.two hb1 (Kp.two hb1 (Kp.two hb1 (Kp.two hb1 (Kp.two hb1 (Kp.two hb1 (Kp.two hb1 (Kp.two hb1 (Kp.ends hb1))))))))) hHeld) (fun hHeld1 => ?_)
  clear hK K hHeld
  have hHeld := hHeld1; clear hHeld1
  try simp only [List.getElem_toArray, List.getElem_cons_succ, List.getElem_cons_zero, Act.put, List.setIfInBounds_toArray, List.set_cons_zero, List.set_cons_succ]
  refine wpAnyH_take (i := 3) (v := ?v3) rfl (by kernel_rfl) (by kernel_rfl) (by kernel_rfl) (fun _ _ _ h => h) (Or.inl ⟨by rfl, ?y3⟩) hHeld ?r3
  case y3 => (intro W hSw; simp only [List.getElem_toArray, List.getElem_cons_succ, List.getElem_cons_zero]; go_simp; try (with_reducible rfl))
  simp only [List.getElem_toArray, List.getElem_cons_succ, List.getElem_cons_zero, Act.put, List.setIfInBounds_toArray, List.set_cons_zero, List.set_cons_succ]
  refine wpAnyH_take (i := 4) (v := ?v4) rfl (by kernel_rfl) (by kernel_rfl) (by kernel_rfl) (fun _ _ _ h => h) (Or.inl ⟨by rfl, ?y4⟩) hHeld ?r4
  case y4 => (intro W hSw; simp only [List.getElem_toArray, List.getElem_cons_succ, List.getElem_cons_zero]; go_simp; try (with_reducible rfl))
  simp only [List.getElem_toArray, List.getElem_cons_succ, List.getElem_cons_zero, Act.put, List.setIfInBounds_toArray, List.set_cons_zero, List.set_cons_succ]
  refine wpAnyH_take (i := 5) (v := ?v5) rfl (by kernel_rfl) (by kernel_rfl) (by kernel_rfl) (fun _ _ _ h => h) (Or.inl ⟨by rfl, ?y5⟩) hHeld ?r5
  case y5 => (intro W hSw; simp only [List.getElem_toArray, List.getElem_cons_succ, List.getElem_cons_zero]; go_simp; try (with_reducible rfl))
  simp only [List.getElem_toArray, List.getElem_cons_succ, List.getElem_cons_zero, Act.put, List.setIfInBounds_toArray, List.set_cons_zero, List.set_cons_succ]
  refine wpAnyH_take (i := 6) (v := ?v6) rfl (by kernel_rfl) (by kernel_rfl) (by kernel_rfl) (fun _ _ _ h => h) (Or.inl ⟨by rfl, ?y6⟩) hHeld ?r6
  case y6 => (intro W hSw; simp only [List.getElem_toArray, List.getElem_cons_succ, List.getElem_cons_zero]; go_simp; try (with_reducible rfl))
  simp only [List.getElem_toArray, List.getElem_cons_succ, List.getElem_cons_zero, Act.put, List.setIfInBounds_toArray, List.set_cons_zero, List.set_cons_succ]
  refine wpAnyH_take (i := 8) (v := ?v8) rfl (by kernel_rfl) (by kernel_rfl) (by kernel_rfl) (fun _ _ _ h => h) (Or.inl ⟨by rfl, ?y8⟩) hHeld ?r8
  case y8 => (intro W hSw; simp only [List.getElem_toArray, List.getElem_cons_succ, List.getElem_cons_zero]; go_simp; try (with_reducible rfl))
  simp only [List.getElem_toArray, List.getElem_cons_succ, List.getElem_cons_zero, Act.put, List.setIfInBounds_toArray, List.set_cons_zero, List.set_cons_succ]
  refine wpAnyH_take (i := 9) (v := ?v9) rfl (by kernel_rfl) (by kernel_rfl) (by kernel_rfl) (fun _ _ _ h => h) (Or.inl ⟨by rfl, ?y9⟩) hHeld ?r9
  case y9 => (intro W hSw; simp only [List.getElem_toArray, List.getElem_cons_succ, List.getElem_cons_zero]; go_simp; try (with_reducible rfl))
  simp only [List.getElem_toArray, List.getElem_cons_succ, List.getElem_cons_zero, Act.put, List.setIfInBounds_toArray, List.set_cons_zero, List.set_cons_succ]
  refine wpAnyH_ready (rs := [7]) (by kernel_rfl) (by simp) (AllReadyH.cons rfl (fun K hK => ?_) AllReadyH.nil)
  simp only [List.getElem_toArray, List.getElem_cons_succ, List.getElem_cons_zero]
  go_simp
  (go_at_call 11; refine (C4.out _ hHeld.2.2.2.2.2.2.2.2.2.2.2.2.2.2.2.2.2).mono ?_; rintro e w9 ⟨rfl, hb1⟩)
  try go_wp2_with fail
  refine hK.out _ _ ((Kp.two hb1 (Kp.two hb1 (Kp.two hb1 (Kp.two hb1 (Kp.two hb1 (Kp.two hb1 (Kp.two hb1 (Kp.two hb1 (Kp.ends hb1))))))))) hHeld) (fun hHeld1 => ?_)
  clear hK K hHeld
  have hHeld := hHeld1; clear hHeld1
  try simp only [List.getElem_toArray, List.getElem_cons_succ, List.getElem_cons_zero, Act.put, List.setIfInBounds_toArray, List.set_cons_zero, List.set_cons_succ]
  refine wpAnyH_ready (rs := [10]) (by kernel_rfl) (by simp) (AllReadyH.cons rfl (fun K hK => ?_) AllReadyH.nil)
  simp only [List.getElem_toArray, List.getElem_cons_succ, List.getElem_cons_zero]
  go_simp
  (go_at_call 12; refine (C5.out _ hHeld.2.2.2.2.2.2.2.2.2.2.2.2.2.2.2.2.2).mono ?_; rintro e w9 ⟨rfl, hb1⟩)
  try go_wp2_with fail
  refine hK.out _ _ ((Kp.two hb1 (Kp.two hb1 (Kp.two hb1 (Kp.two hb1 (Kp.two hb1 (Kp.two hb1 (Kp.two hb1 (Kp.two hb1 (Kp.ends hb1))))))))) hHeld) (fun hHeld1 => ?_)
  clear hK K hHeld
  have hHeld := hHeld1; clear hHeld1
  try simp only [List.getElem_toArray, List.getElem_cons_succ, List.getElem_cons_zero, Act.put, List.setIfInBounds_toArray, List.set_cons_zero, List.set_cons_succ]
  refine wpAnyH_take (i := 11) (v := ?v11) rfl (by kernel_rfl) (by kernel_rfl) (by kernel_rfl) (fun _ _ _ h => h) (Or.inl ⟨by rfl, ?y11⟩) hHeld ?r11
  case y11 => (intro W hSw; simp only [List.getElem_toArray, List.getElem_cons_succ, List.getElem_cons_zero]; go_simp; try (with_reducible rfl))
  simp only [List.getElem_toArray, List.getElem_cons_succ, List.getElem_cons_zero, Act.put, List.setIfInBounds_toArray, List.set_cons_zero, List.set_cons_succ]
  refine wpAnyH_take (i := 12) (v := ?v12) rfl (by kernel_rfl) (by kernel_rfl) (by kernel_rfl) (fun _ _ _ h => h) (Or.inl ⟨by rfl, ?y12⟩) hHeld ?r12
  case y12 => (intro W hSw; simp only [List.getElem_toArray, List.getElem_cons_succ, List.getElem_cons_zero]; go_simp; try (with_reducible rfl))
  simp only [List.getElem_toArray, List.getElem_cons_succ, List.getElem_cons_zero, Act.put, List.setIfInBounds_toArray, List.set_cons_zero, List.set_cons_succ]
  refine wpAnyH_take (i := 13) (v := ?v13) rfl (by kernel_rfl) (by kernel_rfl) (by kernel_rfl) (fun _ _ _ h => h) (Or.inl ⟨by rfl, ?y13⟩) hHeld ?r13
  case y13 => (intro W hSw; simp only [List.getElem_toArray, List.getElem_cons_succ, List.getElem_cons_zero]; go_simp; try (with_reducible rfl))
  simp only [List.getElem_toArray, List.getElem_cons_succ, List.getElem_cons_zero, Act.put, List.setIfInBounds_toArray, List.set_cons_zero, List.set_cons_succ]
  refine wpAnyH_take (i := 14) (v := ?v14) rfl (by kernel_rfl) (by kernel_rfl) (by kernel_rfl) (fun _ _ _ h => h) (Or.inl ⟨by rfl, ?y14⟩) hHeld ?r14
  case y14 => (intro W hSw; simp only [List.getElem_toArray, List.getElem_cons_succ, List.getElem_cons_zero]; go_simp; try (with_reducible rfl))
  simp only [List.getElem_toArray, List.getElem_cons_succ, List.getElem_cons_zero, Act.put, List.setIfInBounds_toArray, List.set_cons_zero, List.set_cons_succ]
  refine wpAnyH_take (i := 15) (v := ?v15) rfl (by kernel_rfl) (by kernel_rfl) (by kernel_rfl) (fun _ _ _ h => h) (Or.inl ⟨by rfl, ?y15⟩) hHeld ?r15
  case y15 => (intro W hSw; simp only [List.getElem_toArray, List.getElem_cons_succ, List.getElem_cons_zero]; go_simp; try (with_reducible rfl))
  simp only [List.getElem_toArray, List.getElem_cons_succ, List.getElem_cons_zero, Act.put, List.setIfInBounds_toArray, List.set_cons_zero, List.set_cons_succ]
  refine wpAnyH_ready (rs := [16]) (by kernel_rfl) (by simp) (AllReadyH.cons rfl (fun K hK => ?_) AllReadyH.nil)
  simp only [List.getElem_toArray, List.getElem_cons_succ, List.getElem_cons_zero]
  go_simp
  (go_at_call 11; refine (C6.out _ hHeld.2.2.2.2.2.2.2.2.2.2.2.2.2.2.2.2.2).mono ?_; rintro e w9 ⟨rfl, hb1⟩)
  try go_wp2_with fail
  refine hK.out _ _ ((Kp.two hb1 (Kp.two hb1 (Kp.two hb1 (Kp.two hb1 (Kp.two hb1 (Kp.two hb1 (Kp.two hb1 (Kp.two hb1 (Kp.ends hb1))))))))) hHeld) (fun hHeld1 => ?_)
  clear hK K hHeld
  have hHeld := hHeld1; clear hHeld1
  try simp only [List.getElem_toArray, List.getElem_cons_succ, List.getElem_cons_zero, Act.put, List.setIfInBounds_toArray, List.set_cons_zero, List.set_cons_succ]
  refine wpAnyH_take (i := 17) (v := ?v17) rfl (by kernel_rfl) (by kernel_rfl) (by kernel_rfl) (fun _ _ _ h => h) (Or.inl ⟨by rfl, ?y17⟩) hHeld ?r17
  case y17 => (intro W hSw; simp only [List.getElem_toArray, List.getElem_cons_succ, List.getElem_cons_zero]; go_simp; try (with_reducible rfl))
  simp only [List.getElem_toArray, List.getElem_cons_succ, List.getElem_cons_zero, Act.put, List.setIfInBounds_toArray, List.set_cons_zero, List.set_cons_succ]
  refine wpAnyH_take (i := 18) (v := ?v18) rfl (by kernel_rfl) (by kernel_rfl) (by kernel_rfl) (fun _ _ _ h => h) (Or.inl ⟨by rfl, ?y18⟩) hHeld ?r18
  case y18 => (intro W hSw; simp only [List.getElem_toArray, List.getElem_cons_succ, List.getElem_cons_zero]; go_simp; try (with_reducible rfl))
  simp only [List.getElem_toArray, List.getElem_cons_succ, List.getElem_cons_zero, Act.put, List.setIfInBounds_toArray, List.set_cons_zero, List.set_cons_succ]
  refine wpAnyH_take (i := 19) (v := ?v19) rfl (by kernel_rfl) (by kernel_rfl) (by kernel_rfl) (fun _ _ _ h => h) (Or.inl ⟨by rfl, ?y19⟩) hHeld ?r19
  case y19 => (intro W hSw; simp only [List.getElem_toArray, List.getElem_cons_succ, List.getElem_cons_zero]; go_simp; try (with_reducible rfl))
  simp only [List.getElem_toArray, List.getElem_cons_succ, List.getElem_cons_zero, Act.put, List.setIfInBounds_toArray, List.set_cons_zero, List.set_cons_succ]
  refine wpAnyH_take (i := 20) (v := ?v20) rfl (by kernel_rfl) (by kernel_rfl) (by kernel_rfl) (fun _ _ _ h => h) (Or.inl ⟨by rfl, ?y20⟩) hHeld ?r20
  case y20 => (intro W hSw; simp only [List.getElem_toArray, List.getElem_cons_succ, List.getElem_cons_zero]; go_simp; try (with_reducible rfl))
  simp only [List.getElem_toArray, List.getElem_cons_succ, List.getElem_cons_zero, Act.put, List.setIfInBounds_toArray, List.set_cons_zero, List.set_cons_succ]
  refine wpAnyH_take (i := 21) (v := ?v21) rfl (by kernel_rfl) (by kernel_rfl) (by kernel_rfl) (fun _ _ _ h => h) (Or.inl ⟨by rfl, ?y21⟩) hHeld ?r21
  case y21 => (intro W hSw; simp only [List.getElem_toArray, List.getElem_cons_succ, List.getElem_cons_zero]; go_simp; try (with_reducible rfl))
  simp only [List.getElem_toArray, List.getElem_cons_succ, List.getElem_cons_zero, Act.put, List.setIfInBounds_toArray, List.set_cons_zero, List.set_cons_succ]
  refine wpAnyH_take (i := 23) (v := ?v23) rfl (by kernel_rfl) (by kernel_rfl) (by kernel_rfl) (fun _ _ _ h => h) (Or.inl ⟨by rfl, ?y23⟩) hHeld ?r23
  case y23 => (intro W hSw; simp only [List.getElem_toArray, List.getElem_cons_succ, List.getElem_cons_zero]; go_simp; try (with_reducible rfl))
  simp only [List.getElem_toArray, List.getElem_cons_succ, List.getElem_cons_zero, Act.put, List.setIfInBounds_toArray, List.set_cons_zero, List.set_cons_succ]
  refine wpAnyH_take (i := 24) (v := ?v24) rfl (by kernel_rfl) (by kernel_rfl) (by kernel_rfl) (fun _ _ _ h => h) (Or.inl ⟨by rfl, ?y24⟩) hHeld ?r24
  case y24 => (intro W hSw; simp only [List.getElem_toArray, List.getElem_cons_succ, List.getElem_cons_zero]; go_simp; try (with_reducible rfl))
  simp only [List.getElem_toArray, List.getElem_cons_succ, List.getElem_cons_zero, Act.put, List.setIfInBounds_toArray, List.set_cons_zero, List.set_cons_succ]
  refine wpAnyH_ready (rs := [22]) (by kernel_rfl) (by simp) (AllReadyH.cons rfl (fun K hK => ?_) AllReadyH.nil)
  simp only [List.getElem_toArray, List.getElem_cons_succ, List.getElem_cons_zero]
  go_simp
  (go_at_call 13; refine (C7.out _ hHeld.2.2.2.2.2.2.2.2.2.2.2.2.2.2.2.2.2).mono ?_; rintro e w9 ⟨rfl, hb1⟩)
  try go_wp2_with fail
  refine hK.out _ _ ((Kp.two hb1 (Kp.two hb1 (Kp.two hb1 (Kp.two hb1 (Kp.two hb1 (Kp.two hb1 (Kp.two hb1 (Kp.two hb1 (Kp.ends hb1))))))))) hHeld) (fun hHeld1 => ?_)
  clear hK K hHeld
  have hHeld := hHeld1; clear hHeld1
  try simp only [List.getElem_toArray, List.getElem_cons_succ, List.getElem_cons_zero, Act.put, List.setIfInBounds_toArray, List.set_cons_zero, List.set_cons_succ]
  refine wpAnyH_ready (rs := [25]) (by kernel_rfl) (by simp) (AllReadyH.cons rfl (fun K hK => ?_) AllReadyH.nil)
  simp only [List.getElem_toArray, List.getElem_cons_succ, List.getElem_cons_zero]
  go_simp
  (go_at_call 14; refine (C8.out _ hHeld.2.2.2.2.2.2.2.2.2.2.2.2.2.2.2.2.2).mono ?_; rintro e w9 ⟨rfl, hb1⟩)
  try go_wp2_with fail
  refine hK.out _ _ ((Kp.two hb1 (Kp.two hb1 (Kp.two hb1 (Kp.two hb1 (Kp.two hb1 (Kp.two hb1 (Kp.two hb1 (Kp.two hb1 (Kp.ends hb1))))))))) hHeld) (fun hHeld1 => ?_)
  clear hK K hHeld
  have hHeld := hHeld1; clear hHeld1
  try simp only [List.getElem_toArray, List.getElem_cons_succ, List.getElem_cons_zero, Act.put, List.setIfInBounds_toArray, List.set_cons_zero, List.set_cons_succ]
  refine wpAnyH_take (i := 26) (v := ?v26) rfl (by kernel_rfl) (by kernel_rfl) (by kernel_rfl) (fun _ _ _ h => h) (Or.inl ⟨by rfl, ?y26⟩) hHeld ?r26
  case y26 => (intro W hSw; simp only [List.getElem_toArray, List.getElem_cons_succ, List.getElem_cons_zero]; go_simp; try (with_reducible rfl))
  simp only [List.getElem_toArray, List.getElem_cons_succ, List.getElem_cons_zero, Act.put, List.setIfInBounds_toArray, List.set_cons_zero, List.set_cons_succ]
  refine wpAnyH_take (i := 27) (v := ?v27) rfl (by kernel_rfl) (by kernel_rfl) (by kernel_rfl) (fun _ _ _ h => h) (Or.inl ⟨by rfl, ?y27⟩) hHeld ?r27
  case y27 => (intro W hSw; simp only [List.getElem_toArray, List.getElem_cons_succ, List.getElem_cons_zero]; go_simp; try (with_reducible rfl))
  simp only [List.getElem_toArray, List.getElem_cons_succ, List.getElem_cons_zero, Act.put, List.setIfInBounds_toArray, List.set_cons_zero, List.set_cons_succ]
  refine wpAnyH_done (by kernel_rfl) ?_ _
  go_wp2_with fail
  go_ret
  exact ⟨by simp, hHeld.2.2.2.2.2.2.2.2.2.2.2.2.2.2.2.2.2⟩

set_option maxHeartbeats 4000000 in
set_option maxRecDepth 100000 in
theorem tells_good (a b c d : Int) (l : List Pnt) (A : Option Addr) (k : Nat) (a2 b2 c2 d2 : Int) (l2 : List Pnt) (B : Option Addr) (k2 : Nat) (p : Pnt) (w : World) (hA : PtsAt w w.heap.size A l) (hB : PtsAt w w.heap.size B l2) (hn : l.length ≤ 70) (hn2 : l2.length ≤ 70) (hg : rgB a b c d l = true) :
    Calls Try.prog 3 #[.agg #[.int .i64 a, .int .i64 b, .int .i64 c, .int .i64 d, .slice A l.length k], .agg #[.int .i64 a2, .int .i64 b2, .int .i64 c2, .int .i64 d2, .slice B l2.length k2], .agg #[.int .i64 p.1, .int .i64 p.2]] w fun e w' => e = .returned (.bool true) ∧ Below w.heap.size w w' := by
  have C1 := Lib.hid (fun W (h : Below w.heap.size w W) => refRegion_any a b c d l A k W ((hA.later h).wide h.size) hn)
  have C3 := Lib.hid (fun W (h : Below w.heap.size w W) => may_any a b c d l A k W ((hA.later h).wide h.size) hn)
  have C4 := Lib.hid (fun W (h : Below w.heap.size w W) => same_any a b c d l A k a2 b2 c2 d2 l2 B k2 W ((hA.later h).wide h.size) ((hB.later h).wide h.size) hn)
  have C5 := Lib.hid (fun W (h : Below w.heap.size w W) => regions_any a b c d l A k a2 b2 c2 d2 l2 B k2 W ((hA.later h).wide h.size) ((hB.later h).wide h.size) hn hn2)
  have C6 := Lib.hid (fun W (h : Below w.heap.size w W) => (show Calls Try.prog 11 #[.agg #[.int .i64 a, .int .i64 b, .int .i64 c, .int .i64 d, .slice A l.length k], .agg #[.int .i64 a, .int .i64 b, .int .i64 c, .int .i64 d, .slice A l.length k]] W fun e w' => e = .returned (.bool true) ∧ Below W.heap.size W w' by
    have := same_any a b c d l A k a b c d l A k W ((hA.later h).wide h.size) ((hA.later h).wide h.size) hn
    rw [eq4_self, decide_eq_true rfl] at this
    exact this))
  have C7 := Lib.hid (fun W (h : Below w.heap.size w W) => rin_any a b c d l A k p W ((hA.later h).wide h.size) hn)
  have C8 := Lib.hid (fun W (h : Below w.heap.size w W) => refRin_any a b c d l A k p W ((hA.later h).wide h.size) hn)
  have C2 := Lib.hid (fun W (h : Below w.heap.size w W) => box_any a b c d l A k W ((hA.later h).wide h.size) hn hg)
  have C9 := Lib.hid (fun W (h : Below w.heap.size w W) => refBox_any a b c d l A k W ((hA.later h).wide h.size) hn)
  obtain ⟨r, er⟩ : ∃ r, r = rgX a b c d l := ⟨_, rfl⟩
  rw [← er] at C2 C9
  clear er
  have q4 := Cn.nil_nil
  have q5 : ∀ W, (binOp .eql 23 (.agg #[.int .i64 r.x1, .int .i64 r.y1, .int .i64 r.x2, .int .i64 r.y2]) (.agg #[.int .i64 r.x1, .int .i64 r.y1, .int .i64 r.x2, .int .i64 r.y2])).run Try.prog W = .ok (.bool true) W := fun W => by rw [eql_rect, eq4_self]
  rw [hg] at C1 C3
  obtain ⟨sm, es⟩ : ∃ s, s = (eq4 a b c d a2 b2 c2 d2 && decide (l = l2)) := ⟨_, rfl⟩
  rw [← es] at C4 C5
  obtain ⟨ri, ei⟩ : ∃ s, s = rgI a b c d l p := ⟨_, rfl⟩
  rw [← ei] at C7 C8
  obtain ⟨n, e⟩ : ∃ n, n = l.length := ⟨_, rfl⟩
  obtain ⟨n2, e2⟩ : ∃ n, n = l2.length := ⟨_, rfl⟩
  rw [← e, ← e2] at C4 C5
  rw [← e] at C1 C2 C3 C6 C7 C8 hn C9 ⊢
  rw [← e2] at hn2 ⊢
  clear e e2 es ei hA hB hg
  have f1 := decide_eq_true hn
  have f2 := decide_eq_true hn2
  have D1 := Lib.hid (fun W => few_any a b c d A n k W (by unfold maxLen; omega))
  have D2 := Lib.hid (fun W => few_any a2 b2 c2 d2 B n2 k2 W (by unfold maxLen; omega))
  rw [f1] at D1
  rw [f2] at D2
  clear f1 f2
  have L0 := (fun h => Kp.ad50 h w.heap.size rfl (.int .i64 a) (.int .i64 b) (.int .i64 c) (.int .i64 d) (.slice A n k) 26) ⟨Nat.le_refl _, Below.refl w.heap.size w⟩
  have L1 := (Kp.two (Kp.behind _ (.cells #[.int .i64 a2, .int .i64 b2, .int .i64 c2, .int .i64 d2, .slice B n2 k2] 26)) (Kp.two (Kp.behind _ (.cells #[.int .i64 a2, .int .i64 b2, .int .i64 c2, .int .i64 d2, .slice B n2 k2] 26)) (Kp.one (Kp.behind _ (.cells #[.int .i64 a2, .int .i64 b2, .int .i64 c2, .int .i64 d2, .slice B n2 k2] 26)) (fun h => Kp.ad50 h (w.heap.size + 1) (by simp) (.int .i64 a2) (.int .i64 b2) (.int .i64 c2) (.int .i64 d2) (.slice B n2 k2) 26)))) L0
  have L2 := (Kp.two (Kp.behind _ (.cells #[.int .i64 p.1, .int .i64 p.2] 28)) (Kp.two (Kp.behind _ (.cells #[.int .i64 p.1, .int .i64 p.2] 28)) (Kp.two (Kp.behind _ (.cells #[.int .i64 p.1, .int .i64 p.2] 28)) (Kp.two (Kp.behind _ (.cells #[.int .i64 p.1, .int .i64 p.2] 28)) (Kp.two (Kp.behind _ (.cells #[.int .i64 p.1, .int .i64 p.2] 28)) (fun h => Kp.add0 h (w.heap.size + 1 + 1) (by simp) (.int .i64 p.1) (.int .i64 p.2) 28)))))) L1
  have L := Lib.hid L2
  clear L0 L1 L2
  have z := L.out
  go_enter Try.func3, Try.ntmps3
  go_wp2_with fail
  refine (up_any _).mono ?_
  rintro e w1 ⟨rfl, hb1⟩
  have K1 := Lib.hid ((Kp.two hb1 (Kp.two hb1 (Kp.two hb1 (Kp.two hb1 (Kp.two hb1 (Kp.two hb1 (Kp.ends hb1))))))) L.out)
  clear hb1 z L
  have z1 := K1.out
  go_wp2_with fail
  refine (D1.out _).mono ?_
  rintro e w2 ⟨rfl, hb2⟩
  have K2 := Lib.hid ((Kp.two hb2 (Kp.two hb2 (Kp.two hb2 (Kp.two hb2 (Kp.two hb2 (Kp.two hb2 (Kp.ends hb2))))))) K1.out)
  clear hb2 z1 K1
  have z2 := K2.out
  go_wp2_with fail
  refine (D2.out _).mono ?_
  rintro e w3 ⟨rfl, hb3⟩
  have K3 := Lib.hid ((Kp.two hb3 (Kp.two hb3 (Kp.two hb3 (Kp.two hb3 (Kp.two hb3 (Kp.two hb3 (Kp.ends hb3))))))) K2.out)
  clear hb3 z2 K2
  have z3 := K3.out
  go_wp2_with fail
  refine (C1.out _ K3.out.2.2.2.2.2.2.2.2.2.2.2.2.2).mono ?_
  rintro e w4 ⟨rfl, hb4⟩
  have K4 := Lib.hid ((Kp.two hb4 (Kp.two hb4 (Kp.two hb4 (Kp.two hb4 (Kp.two hb4 (Kp.two hb4 (Kp.ends hb4))))))) K3.out)
  clear hb4 z3 K3
  have z4 := K4.out
  go_wp2_with fail
  refine (C2.out _ K4.out.2.2.2.2.2.2.2.2.2.2.2.2.2).mono ?_
  rintro e w5 ⟨rfl, hb5⟩
  have K5 := Lib.hid ((Kp.two hb5 (Kp.two hb5 (Kp.two hb5 (Kp.two hb5 (Kp.two hb5 (Kp.two hb5 (Kp.ends hb5))))))) K4.out)
  clear hb5 z4 K4
  have M5 := Lib.hid ((Kp.two (Kp.behind _ (.cells #[.int .i64 r.x1, .int .i64 r.y1, .int .i64 r.x2, .int .i64 r.y2] 23)) (Kp.two (Kp.behind _ (.cells #[.int .i64 r.x1, .int .i64 r.y1, .int .i64 r.x2, .int .i64 r.y2] 23)) (Kp.two (Kp.behind _ (.cells #[.int .i64 r.x1, .int .i64 r.y1, .int .i64 r.x2, .int .i64 r.y2] 23)) (Kp.two (Kp.behind _ (.cells #[.int .i64 r.x1, .int .i64 r.y1, .int .i64 r.x2, .int .i64 r.y2] 23)) (Kp.two (Kp.behind _ (.cells #[.int .i64 r.x1, .int .i64 r.y1, .int .i64 r.x2, .int .i64 r.y2] 23)) (Kp.two (Kp.behind _ (.cells #[.int .i64 r.x1, .int .i64 r.y1, .int .i64 r.x2, .int .i64 r.y2] 23)) (fun h => Kp.adq0 h w5.heap.size rfl (.int .i64 r.x1) (.int .i64 r.y1) (.int .i64 r.x2) (.int .i64 r.y2) 23))))))) K5.out)
  have y5 := K5.out
  clear K5
  have z5 := M5.out
  go_wp2_with fail
  have HK := M5.out
  refine wp_region_held_drew (S := (fun W => W.cell? ⟨w.heap.size, 0, none⟩ = some (.int .i64 a) ∧ W.cell? ⟨w.heap.size, 1, none⟩ = some (.int .i64 b) ∧ W.cell? ⟨w.heap.size, 2, none⟩ = some (.int .i64 c) ∧ W.cell? ⟨w.heap.size, 3, none⟩ = some (.int .i64 d) ∧ W.cell? ⟨w.heap.size, 4, none⟩ = some (.slice A n k) ∧ W.cell? ⟨w.heap.size + 1, 0, none⟩ = some (.int .i64 a2) ∧ W.cell? ⟨w.heap.size + 1, 1, none⟩ = some (.int .i64 b2) ∧ W.cell? ⟨w.heap.size + 1, 2, none⟩ = some (.int .i64 c2) ∧ W.cell? ⟨w.heap.size + 1, 3, none⟩ = some (.int .i64 d2) ∧ W.cell? ⟨w.heap.size + 1, 4, none⟩ = some (.slice B n2 k2) ∧ W.cell? ⟨w.heap.size + 1 + 1, 0, none⟩ = some (.int .i64 p.1) ∧ W.cell? ⟨w.heap.size + 1 + 1, 1, none⟩ = some (.int .i64 p.2) ∧ W.cell? ⟨w5.heap.size, 0, none⟩ = some (.int .i64 r.x1) ∧ W.cell? ⟨w5.heap.size, 1, none⟩ = some (.int .i64 r.y1) ∧ W.cell? ⟨w5.heap.size, 2, none⟩ = some (.int .i64 r.x2) ∧ W.cell? ⟨w5.heap.size, 3, none⟩ = some (.int .i64 r.y2) ∧ w.heap.size ≤ W.heap.size ∧ Below w.heap.size w W)) (by kernel_rfl) (by exact ⟨HK.1, HK.2.1, HK.2.2.1, HK.2.2.2.1, HK.2.2.2.2.1, HK.2.2.2.2.2.1, HK.2.2.2.2.2.2.1, HK.2.2.2.2.2.2.2.1, HK.2.2.2.2.2.2.2.2.1, HK.2.2.2.2.2.2.2.2.2.1, HK.2.2.2.2.2.2.2.2.2.2.1, HK.2.2.2.2.2.2.2.2.2.2.2.1, HK.2.2.2.2.2.2.2.2.2.2.2.2.1, HK.2.2.2.2.2.2.2.2.2.2.2.2.2.1, HK.2.2.2.2.2.2.2.2.2.2.2.2.2.2.1, HK.2.2.2.2.2.2.2.2.2.2.2.2.2.2.2.1, HK.2.2.2.2.2.2.2.2.2.2.2.2.2.2.2.2.1, HK.2.2.2.2.2.2.2.2.2.2.2.2.2.2.2.2.2.drew⟩) (fun hHeld => ?_)
  refine wpAnyH_take (i := 0) (v := ?v0) rfl (by kernel_rfl) (by kernel_rfl) (by kernel_rfl) (fun _ _ _ h => h) (Or.inl ⟨by rfl, ?y0⟩) hHeld ?r0
  case y0 => (intro W hSw; simp only [List.getElem_toArray, List.getElem_cons_zero]; go_simp; try (with_reducible rfl))
  simp only [List.getElem_toArray, List.getElem_cons_zero, Act.put, List.setIfInBounds_toArray, List.set_cons_zero, List.set_cons_succ]
  refine wpAnyH_take (i := 2) (v := ?v2) rfl (by kernel_rfl) (by kernel_rfl) (by kernel_rfl) (fun _ _ _ h => h) (Or.inl ⟨by rfl, ?y2⟩) hHeld ?r2
  case y2 => (intro W hSw; simp only [List.getElem_toArray, List.getElem_cons_succ, List.getElem_cons_zero]; go_simp; try (with_reducible rfl))
  simp only [List.getElem_toArray, List.getElem_cons_succ, List.getElem_cons_zero, Act.put, List.setIfInBounds_toArray, List.set_cons_zero, List.set_cons_succ]
  refine wpAnyH_ready (rs := [1]) (by kernel_rfl) (by simp) (AllReadyH.cons rfl (fun K hK => ?_) AllReadyH.nil)
  simp only [List.getElem_toArray, List.getElem_cons_succ, List.getElem_cons_zero]
  go_simp
  (go_at_call 10; refine (C3.out _ hHeld.2.2.2.2.2.2.2.2.2.2.2.2.2.2.2.2.2).mono ?_; rintro e w9 ⟨rfl, hb1⟩)
  try go_wp2_with fail
  refine hK.out _ _ ((Kp.two hb1 (Kp.two hb1 (Kp.two hb1 (Kp.two hb1 (Kp.two hb1 (Kp.two hb1 (Kp.two hb1 (Kp.two hb1 (Kp.ends hb1))))))))) hHeld) (fun hHeld1 => ?_)
  clear hK K hHeld
  have hHeld := hHeld1; clear hHeld1
  try simp only [List.getElem_toArray, List.getElem_cons_succ, List.getElem_cons_zero, Act.put, List.setIfInBounds_toArray, List.set_cons_zero, List.set_cons_succ]
  refine wpAnyH_take (i := 3) (v := ?v3) rfl (by kernel_rfl) (by kernel_rfl) (by kernel_rfl) (fun _ _ _ h => h) (Or.inl ⟨by rfl, ?y3⟩) hHeld ?r3
  case y3 => (intro W hSw; simp only [List.getElem_toArray, List.getElem_cons_succ, List.getElem_cons_zero]; go_simp; try (with_reducible rfl))
  simp only [List.getElem_toArray, List.getElem_cons_succ, List.getElem_cons_zero, Act.put, List.setIfInBounds_toArray, List.set_cons_zero, List.set_cons_succ]
  refine wpAnyH_take (i := 4) (v := ?v4) rfl (by kernel_rfl) (by kernel_rfl) (by kernel_rfl) (fun _ _ _ h => h) (Or.inl ⟨by rfl, ?y4⟩) hHeld ?r4
  case y4 => (intro W hSw; simp only [List.getElem_toArray, List.getElem_cons_succ, List.getElem_cons_zero]; go_simp; try (with_reducible rfl))
  simp only [List.getElem_toArray, List.getElem_cons_succ, List.getElem_cons_zero, Act.put, List.setIfInBounds_toArray, List.set_cons_zero, List.set_cons_succ]
  refine wpAnyH_take (i := 5) (v := ?v5) rfl (by kernel_rfl) (by kernel_rfl) (by kernel_rfl) (fun _ _ _ h => h) (Or.inl ⟨by rfl, ?y5⟩) hHeld ?r5
  case y5 => (intro W hSw; simp only [List.getElem_toArray, List.getElem_cons_succ, List.getElem_cons_zero]; go_simp; try (with_reducible rfl))
  simp only [List.getElem_toArray, List.getElem_cons_succ, List.getElem_cons_zero, Act.put, List.setIfInBounds_toArray, List.set_cons_zero, List.set_cons_succ]
  refine wpAnyH_take (i := 6) (v := ?v6) rfl (by kernel_rfl) (by kernel_rfl) (by kernel_rfl) (fun _ _ _ h => h) (Or.inl ⟨by rfl, ?y6⟩) hHeld ?r6
  case y6 => (intro W hSw; simp only [List.getElem_toArray, List.getElem_cons_succ, List.getElem_cons_zero]; go_simp; try (with_reducible rfl))
  simp only [List.getElem_toArray, List.getElem_cons_succ, List.getElem_cons_zero, Act.put, List.setIfInBounds_toArray, List.set_cons_zero, List.set_cons_succ]
  refine wpAnyH_take (i := 8) (v := ?v8) rfl (by kernel_rfl) (by kernel_rfl) (by kernel_rfl) (fun _ _ _ h => h) (Or.inl ⟨by rfl, ?y8⟩) hHeld ?r8
  case y8 => (intro W hSw; simp only [List.getElem_toArray, List.getElem_cons_succ, List.getElem_cons_zero]; go_simp; try (with_reducible rfl))
  simp only [List.getElem_toArray, List.getElem_cons_succ, List.getElem_cons_zero, Act.put, List.setIfInBounds_toArray, List.set_cons_zero, List.set_cons_succ]
  refine wpAnyH_take (i := 9) (v := ?v9) rfl (by kernel_rfl) (by kernel_rfl) (by kernel_rfl) (fun _ _ _ h => h) (Or.inl ⟨by rfl, ?y9⟩) hHeld ?r9
  case y9 => (intro W hSw; simp only [List.getElem_toArray, List.getElem_cons_succ, List.getElem_cons_zero]; go_simp; try (with_reducible rfl))
  simp only [List.getElem_toArray, List.getElem_cons_succ, List.getElem_cons_zero, Act.put, List.setIfInBounds_toArray, List.set_cons_zero, List.set_cons_succ]
  refine wpAnyH_ready (rs := [7]) (by kernel_rfl) (by simp) (AllReadyH.cons rfl (fun K hK => ?_) AllReadyH.nil)
  simp only [List.getElem_toArray, List.getElem_cons_succ, List.getElem_cons_zero]
  go_simp
  (go_at_call 11; refine (C4.out _ hHeld.2.2.2.2.2.2.2.2.2.2.2.2.2.2.2.2.2).mono ?_; rintro e w9 ⟨rfl, hb1⟩)
  try go_wp2_with fail
  refine hK.out _ _ ((Kp.two hb1 (Kp.two hb1 (Kp.two hb1 (Kp.two hb1 (Kp.two hb1 (Kp.two hb1 (Kp.two hb1 (Kp.two hb1 (Kp.ends hb1))))))))) hHeld) (fun hHeld1 => ?_)
  clear hK K hHeld
  have hHeld := hHeld1; clear hHeld1
  try simp only [List.getElem_toArray, List.getElem_cons_succ, List.getElem_cons_zero, Act.put, List.setIfInBounds_toArray, List.set_cons_zero, List.set_cons_succ]
  refine wpAnyH_ready (rs := [10]) (by kernel_rfl) (by simp) (AllReadyH.cons rfl (fun K hK => ?_) AllReadyH.nil)
  simp only [List.getElem_toArray, List.getElem_cons_succ, List.getElem_cons_zero]
  go_simp
  (go_at_call 12; refine (C5.out _ hHeld.2.2.2.2.2.2.2.2.2.2.2.2.2.2.2.2.2).mono ?_; rintro e w9 ⟨rfl, hb1⟩)
  try go_wp2_with fail
  refine hK.out _ _ ((Kp.two hb1 (Kp.two hb1 (Kp.two hb1 (Kp.two hb1 (Kp.two hb1 (Kp.two hb1 (Kp.two hb1 (Kp.two hb1 (Kp.ends hb1))))))))) hHeld) (fun hHeld1 => ?_)
  clear hK K hHeld
  have hHeld := hHeld1; clear hHeld1
  try simp only [List.getElem_toArray, List.getElem_cons_succ, List.getElem_cons_zero, Act.put, List.setIfInBounds_toArray, List.set_cons_zero, List.set_cons_succ]
  refine wpAnyH_take (i := 11) (v := ?v11) rfl (by kernel_rfl) (by kernel_rfl) (by kernel_rfl) (fun _ _ _ h => h) (Or.inl ⟨by rfl, ?y11⟩) hHeld ?r11
  case y11 => (intro W hSw; simp only [List.getElem_toArray, List.getElem_cons_succ, List.getElem_cons_zero]; go_simp; try (with_reducible rfl))
  simp only [List.getElem_toArray, List.getElem_cons_succ, List.getElem_cons_zero, Act.put, List.setIfInBounds_toArray, List.set_cons_zero, List.set_cons_succ]
  refine wpAnyH_take (i := 12) (v := ?v12) rfl (by kernel_rfl) (by kernel_rfl) (by kernel_rfl) (fun _ _ _ h => h) (Or.inl ⟨by rfl, ?y12⟩) hHeld ?r12
  case y12 => (intro W hSw; simp only [List.getElem_toArray, List.getElem_cons_succ, List.getElem_cons_zero]; go_simp; try (with_reducible rfl))
  simp only [List.getElem_toArray, List.getElem_cons_succ, List.getElem_cons_zero, Act.put, List.setIfInBounds_toArray, List.set_cons_zero, List.set_cons_succ]
  refine wpAnyH_take (i := 13) (v := ?v13) rfl (by kernel_rfl) (by kernel_rfl) (by kernel_rfl) (fun _ _ _ h => h) (Or.inl ⟨by rfl, ?y13⟩) hHeld ?r13
  case y13 => (intro W hSw; simp only [List.getElem_toArray, List.getElem_cons_succ, List.getElem_cons_zero]; go_simp; try (with_reducible rfl))
  simp only [List.getElem_toArray, List.getElem_cons_succ, List.getElem_cons_zero, Act.put, List.setIfInBounds_toArray, List.set_cons_zero, List.set_cons_succ]
  refine wpAnyH_take (i := 14) (v := ?v14) rfl (by kernel_rfl) (by kernel_rfl) (by kernel_rfl) (fun _ _ _ h => h) (Or.inl ⟨by rfl, ?y14⟩) hHeld ?r14
  case y14 => (intro W hSw; simp only [List.getElem_toArray, List.getElem_cons_succ, List.getElem_cons_zero]; go_simp; try (with_reducible rfl))
  simp only [List.getElem_toArray, List.getElem_cons_succ, List.getElem_cons_zero, Act.put, List.setIfInBounds_toArray, List.set_cons_zero, List.set_cons_succ]
  refine wpAnyH_take (i := 15) (v := ?v15) rfl (by kernel_rfl) (by kernel_rfl) (by kernel_rfl) (fun _ _ _ h => h) (Or.inl ⟨by rfl, ?y15⟩) hHeld ?r15
  case y15 => (intro W hSw; simp only [List.getElem_toArray, List.getElem_cons_succ, List.getElem_cons_zero]; go_simp; try (with_reducible rfl))
  simp only [List.getElem_toArray, List.getElem_cons_succ, List.getElem_cons_zero, Act.put, List.setIfInBounds_toArray, List.set_cons_zero, List.set_cons_succ]
  refine wpAnyH_ready (rs := [16]) (by kernel_rfl) (by simp) (AllReadyH.cons rfl (fun K hK => ?_) AllReadyH.nil)
  simp only [List.getElem_toArray, List.getElem_cons_succ, List.getElem_cons_zero]
  go_simp
  (go_at_call 11; refine (C6.out _ hHeld.2.2.2.2.2.2.2.2.2.2.2.2.2.2.2.2.2).mono ?_; rintro e w9 ⟨rfl, hb1⟩)
  try go_wp2_with fail
  refine hK.out _ _ ((Kp.two hb1 (Kp.two hb1 (Kp.two hb1 (Kp.two hb1 (Kp.two hb1 (Kp.two hb1 (Kp.two hb1 (Kp.two hb1 (Kp.ends hb1))))))))) hHeld) (fun hHeld1 => ?_)
  clear hK K hHeld
  have hHeld := hHeld1; clear hHeld1
  try simp only [List.getElem_toArray, List.getElem_cons_succ, List.getElem_cons_zero, Act.put, List.setIfInBounds_toArray, List.set_cons_zero, List.set_cons_succ]
  refine wpAnyH_take (i := 17) (v := ?v17) rfl (by kernel_rfl) (by kernel_rfl) (by kernel_rfl) (fun _ _ _ h => h) (Or.inl ⟨by rfl, ?y17⟩) hHeld ?r17
  case y17 => (intro W hSw; simp only [List.getElem_toArray, List.getElem_cons_succ, List.getElem_cons_zero]; go_simp; try (with_reducible rfl))
  simp only [List.getElem_toArray, List.getElem_cons_succ, List.getElem_cons_zero, Act.put, List.setIfInBounds_toArray, List.set_cons_zero, List.set_cons_succ]
  refine wpAnyH_take (i := 18) (v := ?v18) rfl (by kernel_rfl) (by kernel_rfl) (by kernel_rfl) (fun _ _ _ h => h) (Or.inl ⟨by rfl, ?y18⟩) hHeld ?r18
  case y18 => (intro W hSw; simp only [List.getElem_toArray, List.getElem_cons_succ, List.getElem_cons_zero]; go_simp; try (with_reducible rfl))
  simp only [List.getElem_toArray, List.getElem_cons_succ, List.getElem_cons_zero, Act.put, List.setIfInBounds_toArray, List.set_cons_zero, List.set_cons_succ]
  refine wpAnyH_take (i := 19) (v := ?v19) rfl (by kernel_rfl) (by kernel_rfl) (by kernel_rfl) (fun _ _ _ h => h) (Or.inl ⟨by rfl, ?y19⟩) hHeld ?r19
  case y19 => (intro W hSw; simp only [List.getElem_toArray, List.getElem_cons_succ, List.getElem_cons_zero]; go_simp; try (with_reducible rfl))
  simp only [List.getElem_toArray, List.getElem_cons_succ, List.getElem_cons_zero, Act.put, List.setIfInBounds_toArray, List.set_cons_zero, List.set_cons_succ]
  refine wpAnyH_take (i := 20) (v := ?v20) rfl (by kernel_rfl) (by kernel_rfl) (by kernel_rfl) (fun _ _ _ h => h) (Or.inl ⟨by rfl, ?y20⟩) hHeld ?r20
  case y20 => (intro W hSw; simp only [List.getElem_toArray, List.getElem_cons_succ, List.getElem_cons_zero]; go_simp; try (with_reducible rfl))
  simp only [List.getElem_toArray, List.getElem_cons_succ, List.getElem_cons_zero, Act.put, List.setIfInBounds_toArray, List.set_cons_zero, List.set_cons_succ]
  refine wpAnyH_take (i := 21) (v := ?v21) rfl (by kernel_rfl) (by kernel_rfl) (by kernel_rfl) (fun _ _ _ h => h) (Or.inl ⟨by rfl, ?y21⟩) hHeld ?r21
  case y21 => (intro W hSw; simp only [List.getElem_toArray, List.getElem_cons_succ, List.getElem_cons_zero]; go_simp; try (with_reducible rfl))
  simp only [List.getElem_toArray, List.getElem_cons_succ, List.getElem_cons_zero, Act.put, List.setIfInBounds_toArray, List.set_cons_zero, List.set_cons_succ]
  refine wpAnyH_take (i := 23) (v := ?v23) rfl (by kernel_rfl) (by kernel_rfl) (by kernel_rfl) (fun _ _ _ h => h) (Or.inl ⟨by rfl, ?y23⟩) hHeld ?r23
  case y23 => (intro W hSw; simp only [List.getElem_toArray, List.getElem_cons_succ, List.getElem_cons_zero]; go_simp; try (with_reducible rfl))
  simp only [List.getElem_toArray, List.getElem_cons_succ, List.getElem_cons_zero, Act.put, List.setIfInBounds_toArray, List.set_cons_zero, List.set_cons_succ]
  refine wpAnyH_take (i := 24) (v := ?v24) rfl (by kernel_rfl) (by kernel_rfl) (by kernel_rfl) (fun _ _ _ h => h) (Or.inl ⟨by rfl, ?y24⟩) hHeld ?r24
  case y24 => (intro W hSw; simp only [List.getElem_toArray, List.getElem_cons_succ, List.getElem_cons_zero]; go_simp; try (with_reducible rfl))
  simp only [List.getElem_toArray, List.getElem_cons_succ, List.getElem_cons_zero, Act.put, List.setIfInBounds_toArray, List.set_cons_zero, List.set_cons_succ]
  refine wpAnyH_ready (rs := [22]) (by kernel_rfl) (by simp) (AllReadyH.cons rfl (fun K hK => ?_) AllReadyH.nil)
  simp only [List.getElem_toArray, List.getElem_cons_succ, List.getElem_cons_zero]
  go_simp
  (go_at_call 13; refine (C7.out _ hHeld.2.2.2.2.2.2.2.2.2.2.2.2.2.2.2.2.2).mono ?_; rintro e w9 ⟨rfl, hb1⟩)
  try go_wp2_with fail
  refine hK.out _ _ ((Kp.two hb1 (Kp.two hb1 (Kp.two hb1 (Kp.two hb1 (Kp.two hb1 (Kp.two hb1 (Kp.two hb1 (Kp.two hb1 (Kp.ends hb1))))))))) hHeld) (fun hHeld1 => ?_)
  clear hK K hHeld
  have hHeld := hHeld1; clear hHeld1
  try simp only [List.getElem_toArray, List.getElem_cons_succ, List.getElem_cons_zero, Act.put, List.setIfInBounds_toArray, List.set_cons_zero, List.set_cons_succ]
  refine wpAnyH_ready (rs := [25]) (by kernel_rfl) (by simp) (AllReadyH.cons rfl (fun K hK => ?_) AllReadyH.nil)
  simp only [List.getElem_toArray, List.getElem_cons_succ, List.getElem_cons_zero]
  go_simp
  (go_at_call 14; refine (C8.out _ hHeld.2.2.2.2.2.2.2.2.2.2.2.2.2.2.2.2.2).mono ?_; rintro e w9 ⟨rfl, hb1⟩)
  try go_wp2_with fail
  refine hK.out _ _ ((Kp.two hb1 (Kp.two hb1 (Kp.two hb1 (Kp.two hb1 (Kp.two hb1 (Kp.two hb1 (Kp.two hb1 (Kp.two hb1 (Kp.ends hb1))))))))) hHeld) (fun hHeld1 => ?_)
  clear hK K hHeld
  have hHeld := hHeld1; clear hHeld1
  try simp only [List.getElem_toArray, List.getElem_cons_succ, List.getElem_cons_zero, Act.put, List.setIfInBounds_toArray, List.set_cons_zero, List.set_cons_succ]
  refine wpAnyH_take (i := 26) (v := ?v26) rfl (by kernel_rfl) (by kernel_rfl) (by kernel_rfl) (fun _ _ _ h => h) (Or.inl ⟨by rfl, ?y26⟩) hHeld ?r26
  case y26 => (intro W hSw; simp only [List.getElem_toArray, List.getElem_cons_succ, List.getElem_cons_zero]; go_simp; try (with_reducible rfl))
  simp only [List.getElem_toArray, List.getElem_cons_succ, List.getElem_cons_zero, Act.put, List.setIfInBounds_toArray, List.set_cons_zero, List.set_cons_succ]
  refine wpAnyH_take (i := 27) (v := ?v27) rfl (by kernel_rfl) (by kernel_rfl) (by kernel_rfl) (fun _ _ _ h => h) (Or.inl ⟨by rfl, ?y27⟩) hHeld ?r27
  case y27 => (intro W hSw; simp only [List.getElem_toArray, List.getElem_cons_succ, List.getElem_cons_zero]; go_simp; try (with_reducible rfl))
  simp only [List.getElem_toArray, List.getElem_cons_succ, List.getElem_cons_zero, Act.put, List.setIfInBounds_toArray, List.set_cons_zero, List.set_cons_succ]
  refine wpAnyH_done (by kernel_rfl) ?_ _
  go_wp2_with fail
  have HK2 := hHeld
  clear hHeld
  refine wp_region_held_drew (S := (fun W => W.cell? ⟨w.heap.size, 0, none⟩ = some (.int .i64 a) ∧ W.cell? ⟨w.heap.size, 1, none⟩ = some (.int .i64 b) ∧ W.cell? ⟨w.heap.size, 2, none⟩ = some (.int .i64 c) ∧ W.cell? ⟨w.heap.size, 3, none⟩ = some (.int .i64 d) ∧ W.cell? ⟨w.heap.size, 4, none⟩ = some (.slice A n k) ∧ W.cell? ⟨w.heap.size + 1, 0, none⟩ = some (.int .i64 a2) ∧ W.cell? ⟨w.heap.size + 1, 1, none⟩ = some (.int .i64 b2) ∧ W.cell? ⟨w.heap.size + 1, 2, none⟩ = some (.int .i64 c2) ∧ W.cell? ⟨w.heap.size + 1, 3, none⟩ = some (.int .i64 d2) ∧ W.cell? ⟨w.heap.size + 1, 4, none⟩ = some (.slice B n2 k2) ∧ W.cell? ⟨w.heap.size + 1 + 1, 0, none⟩ = some (.int .i64 p.1) ∧ W.cell? ⟨w.heap.size + 1 + 1, 1, none⟩ = some (.int .i64 p.2) ∧ W.cell? ⟨w5.heap.size, 0, none⟩ = some (.int .i64 r.x1) ∧ W.cell? ⟨w5.heap.size, 1, none⟩ = some (.int .i64 r.y1) ∧ W.cell? ⟨w5.heap.size, 2, none⟩ = some (.int .i64 r.x2) ∧ W.cell? ⟨w5.heap.size, 3, none⟩ = some (.int .i64 r.y2) ∧ w.heap.size ≤ W.heap.size ∧ Below w.heap.size w W)) (by kernel_rfl) (by exact ⟨HK2.1, HK2.2.1, HK2.2.2.1, HK2.2.2.2.1, HK2.2.2.2.2.1, HK2.2.2.2.2.2.1, HK2.2.2.2.2.2.2.1, HK2.2.2.2.2.2.2.2.1, HK2.2.2.2.2.2.2.2.2.1, HK2.2.2.2.2.2.2.2.2.2.1, HK2.2.2.2.2.2.2.2.2.2.2.1, HK2.2.2.2.2.2.2.2.2.2.2.2.1, HK2.2.2.2.2.2.2.2.2.2.2.2.2.1, HK2.2.2.2.2.2.2.2.2.2.2.2.2.2.1, HK2.2.2.2.2.2.2.2.2.2.2.2.2.2.2.1, HK2.2.2.2.2.2.2.2.2.2.2.2.2.2.2.2.1, HK2.2.2.2.2.2.2.2.2.2.2.2.2.2.2.2.2.1, HK2.2.2.2.2.2.2.2.2.2.2.2.2.2.2.2.2.2.drew⟩) (fun hHeld => ?_)
  refine wpAnyH_take (i := 0) (v := ?vB0) rfl (by kernel_rfl) (by kernel_rfl) (by kernel_rfl) (fun _ _ _ h => h) (Or.inl ⟨by rfl, ?yB0⟩) hHeld ?rB0
  case yB0 => (intro W hSw; simp only [List.getElem_toArray, List.getElem_cons_zero]; go_simp; try (with_reducible rfl))
  simp only [List.getElem_toArray, List.getElem_cons_zero, Act.put, List.setIfInBounds_toArray, List.set_cons_zero, List.set_cons_succ]
  refine wpAnyH_take (i := 1) (v := ?vB1) rfl (by kernel_rfl) (by kernel_rfl) (by kernel_rfl) (fun _ _ _ h => h) (Or.inl ⟨by rfl, ?yB1⟩) hHeld ?rB1
  case yB1 => (intro W hSw; simp only [List.getElem_toArray, List.getElem_cons_succ, List.getElem_cons_zero]; go_simp; try (with_reducible rfl))
  simp only [List.getElem_toArray, List.getElem_cons_succ, List.getElem_cons_zero, Act.put, List.setIfInBounds_toArray, List.set_cons_zero, List.set_cons_succ]
  refine wpAnyH_take (i := 2) (v := ?vB2) rfl (by kernel_rfl) (by kernel_rfl) (by kernel_rfl) (fun _ _ _ h => h) (Or.inl ⟨by rfl, ?yB2⟩) hHeld ?rB2
  case yB2 => (intro W hSw; simp only [List.getElem_toArray, List.getElem_cons_succ, List.getElem_cons_zero]; go_simp; try (with_reducible rfl))
  simp only [List.getElem_toArray, List.getElem_cons_succ, List.getElem_cons_zero, Act.put, List.setIfInBounds_toArray, List.set_cons_zero, List.set_cons_succ]
  refine wpAnyH_take (i := 3) (v := ?vB3) rfl (by kernel_rfl) (by kernel_rfl) (by kernel_rfl) (fun _ _ _ h => h) (Or.inl ⟨by rfl, ?yB3⟩) hHeld ?rB3
  case yB3 => (intro W hSw; simp only [List.getElem_toArray, List.getElem_cons_succ, List.getElem_cons_zero]; go_simp; try (with_reducible rfl))
  simp only [List.getElem_toArray, List.getElem_cons_succ, List.getElem_cons_zero, Act.put, List.setIfInBounds_toArray, List.set_cons_zero, List.set_cons_succ]
  refine wpAnyH_take (i := 4) (v := ?vB4) rfl (by kernel_rfl) (by kernel_rfl) (by kernel_rfl) (fun _ _ _ h => h) (Or.inl ⟨by rfl, ?yB4⟩) hHeld ?rB4
  case yB4 => (intro W hSw; simp only [List.getElem_toArray, List.getElem_cons_succ, List.getElem_cons_zero]; go_simp; try (with_reducible rfl))
  simp only [List.getElem_toArray, List.getElem_cons_succ, List.getElem_cons_zero, Act.put, List.setIfInBounds_toArray, List.set_cons_zero, List.set_cons_succ]
  refine wpAnyH_take (i := 5) (v := ?vB5) rfl (by kernel_rfl) (by kernel_rfl) (by kernel_rfl) (fun _ _ _ h => h) (Or.inl ⟨by rfl, ?yB5⟩) hHeld ?rB5
  case yB5 => (intro W hSw; simp only [List.getElem_toArray, List.getElem_cons_succ, List.getElem_cons_zero]; go_simp; try (with_reducible rfl))
  simp only [List.getElem_toArray, List.getElem_cons_succ, List.getElem_cons_zero, Act.put, List.setIfInBounds_toArray, List.set_cons_zero, List.set_cons_succ]
  refine wpAnyH_take (i := 6) (v := ?vB6) rfl (by kernel_rfl) (by kernel_rfl) (by kernel_rfl) (fun _ _ _ h => h) (Or.inl ⟨by rfl, ?yB6⟩) hHeld ?rB6
  case yB6 => (intro W hSw; simp only [List.getElem_toArray, List.getElem_cons_succ, List.getElem_cons_zero]; go_simp; try (with_reducible rfl))
  simp only [List.getElem_toArray, List.getElem_cons_succ, List.getElem_cons_zero, Act.put, List.setIfInBounds_toArray, List.set_cons_zero, List.set_cons_succ]
  refine wpAnyH_take (i := 7) (v := ?vB7) rfl (by kernel_rfl) (by kernel_rfl) (by kernel_rfl) (fun _ _ _ h => h) (Or.inl ⟨by rfl, ?yB7⟩) hHeld ?rB7
  case yB7 => (intro W hSw; simp only [List.getElem_toArray, List.getElem_cons_succ, List.getElem_cons_zero]; go_simp; try (with_reducible rfl))
  simp only [List.getElem_toArray, List.getElem_cons_succ, List.getElem_cons_zero, Act.put, List.setIfInBounds_toArray, List.set_cons_zero, List.set_cons_succ]
  refine wpAnyH_ready (rs := [8]) (by kernel_rfl) (by simp) (AllReadyH.cons rfl (fun K hK => ?_) AllReadyH.nil)
  simp only [List.getElem_toArray, List.getElem_cons_succ, List.getElem_cons_zero]
  go_simp
  (go_at_call 15; refine (C9.out _ hHeld.2.2.2.2.2.2.2.2.2.2.2.2.2.2.2.2.2).mono ?_; rintro e w9 ⟨rfl, hb1⟩)
  try go_wp2_with fail
  refine hK.out _ _ ((Kp.two hb1 (Kp.two hb1 (Kp.two hb1 (Kp.two hb1 (Kp.two hb1 (Kp.two hb1 (Kp.two hb1 (Kp.two hb1 (Kp.ends hb1))))))))) hHeld) (fun hHeld1 => ?_)
  clear hK K hHeld
  have hHeld := hHeld1; clear hHeld1
  try simp only [List.getElem_toArray, List.getElem_cons_succ, List.getElem_cons_zero, Act.put, List.setIfInBounds_toArray, List.set_cons_zero, List.set_cons_succ]
  refine wpAnyH_take (i := 9) (v := ?vB9) rfl (by kernel_rfl) (by kernel_rfl) (by kernel_rfl) (fun _ _ _ h => h) (Or.inl ⟨by rfl, ?yB9⟩) hHeld ?rB9
  case yB9 => (intro W hSw; simp only [List.getElem_toArray, List.getElem_cons_succ, List.getElem_cons_zero]; go_simp; try (with_reducible rfl))
  simp only [List.getElem_toArray, List.getElem_cons_succ, List.getElem_cons_zero, Act.put, List.setIfInBounds_toArray, List.set_cons_zero, List.set_cons_succ]
  refine wpAnyH_take (i := 10) (v := ?vB10) rfl (by kernel_rfl) (by kernel_rfl) (by kernel_rfl) (fun _ _ _ h => h) (Or.inl ⟨by rfl, ?yB10⟩) hHeld ?rB10
  case yB10 => (intro W hSw; simp only [List.getElem_toArray, List.getElem_cons_succ, List.getElem_cons_zero]; go_simp; try (with_reducible rfl))
  simp only [List.getElem_toArray, List.getElem_cons_succ, List.getElem_cons_zero, Act.put, List.setIfInBounds_toArray, List.set_cons_zero, List.set_cons_succ]
  refine wpAnyH_take (i := 11) (v := ?vB11) rfl (by kernel_rfl) (by kernel_rfl) (by kernel_rfl) (fun _ _ _ h => h) (Or.inl ⟨by rfl, ?yB11⟩) hHeld ?rB11
  case yB11 => (intro W hSw; simp only [List.getElem_toArray, List.getElem_cons_succ, List.getElem_cons_zero]; go_simp; try (with_reducible rfl))
  simp only [List.getElem_toArray, List.getElem_cons_succ, List.getElem_cons_zero, Act.put, List.setIfInBounds_toArray, List.set_cons_zero, List.set_cons_succ]
  refine wpAnyH_done (by kernel_rfl) ?_ _
  go_wp2_with fail
  go_ret
  exact ⟨by simp, hHeld.2.2.2.2.2.2.2.2.2.2.2.2.2.2.2.2.2⟩

theorem tells_all (a b c d : Int) (l : List Pnt) (A : Option Addr) (k : Nat) (a2 b2 c2 d2 : Int) (l2 : List Pnt) (B : Option Addr) (k2 : Nat) (p : Pnt) (w : World) (hA : PtsAt w w.heap.size A l) (hB : PtsAt w w.heap.size B l2) (hm : l.length ≤ maxLen) (hm2 : l2.length ≤ maxLen) :
    Calls Try.prog 3 #[.agg #[.int .i64 a, .int .i64 b, .int .i64 c, .int .i64 d, .slice A l.length k], .agg #[.int .i64 a2, .int .i64 b2, .int .i64 c2, .int .i64 d2, .slice B l2.length k2], .agg #[.int .i64 p.1, .int .i64 p.2]] w fun e w' => e = .returned (.bool true) ∧ Below w.heap.size w w' := by
  cases h : (decide (l.length ≤ 70) && decide (l2.length ≤ 70))
  · exact tells_far a b c d A l.length k a2 b2 c2 d2 B l2.length k2 p w hm hm2 h
  · simp only [Bool.and_eq_true, decide_eq_true_eq] at h
    cases hg : rgB a b c d l
    · exact tells_bad a b c d l A k a2 b2 c2 d2 l2 B k2 p w hA hB h.1 h.2 hg
    · exact tells_good a b c d l A k a2 b2 c2 d2 l2 B k2 p w hA hB h.1 h.2 hg
end Go.Proofs.Ytiggjaodfmelpaa.Rg
