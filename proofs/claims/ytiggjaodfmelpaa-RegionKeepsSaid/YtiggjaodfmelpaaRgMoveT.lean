/-
  Contract of Move of layer 16 (region). Memory that was there is left as it was; the points that it tells lie in a new block.
-/
import Derived.Test.YtiggjaodfmelpaaRgMove
namespace Go.Proofs.Ytiggjaodfmelpaa.Rg
open Go.RowKit Go.Proofs.Ytiggjaodfmelpaa.Pt Go.Proofs.Ytiggjaodfmelpaa.Rc Go.Proofs.Ytiggjaodfmelpaa.Pts Go.Proofs.Ytiggjaodfmelpaa.Pl
set_option linter.unusedVariables false

theorem mvB_rect {a b c d : Int} {l : List Pnt} {v : Pnt} (h : l.length = 0) : mvB a b c d l v = (stepB v (a, b) && stepB v (c, d)) := by
  unfold mvB stepB
  rw [if_pos h]
  unfold pmay addP
  cases mayB v.1 v.2 <;> simp
theorem mvB_poly {a b c d : Int} {l : List Pnt} {v : Pnt} (h : 0 < l.length) : mvB a b c d l v = fineB l v := by unfold mvB; rw [if_neg (by omega)]
theorem mvN_rect {l : List Pnt} (h : l.length = 0) (a x : Int) : mvN l a x = a + x := by unfold mvN; rw [if_pos h]
theorem mvN_poly {l : List Pnt} (h : 0 < l.length) (a x : Int) : mvN l a x = 0 := by unfold mvN; rw [if_neg (by omega)]

set_option maxHeartbeats 1000000 in
theorem move_arg2 (a b c d : Int) (l : List Pnt) (A : Option Addr) (k : Nat) (v : Pnt) (w : World) (hA : PtsAt w w.heap.size A l) (hn : l.length ≤ 70) (hg : rgB a b c d l = false) :
    Calls Try.prog 16 #[.agg #[.int .i64 a, .int .i64 b, .int .i64 c, .int .i64 d, .slice A l.length k], .agg #[.int .i64 v.1, .int .i64 v.2]] w fun e w' => e = .returned (.tuple #[.agg #[.int .i64 0, .int .i64 0, .int .i64 0, .int .i64 0, .slice none 0 0], .iface 37 (.int .i64 1)]) ∧ Below w.heap.size w w' := by
  have C1 := Lib.hid (fun W (h : Below w.heap.size w W) => may_any a b c d l A k W ((hA.later h).wide h.size) hn)
  rw [hg] at C1
  obtain ⟨n, e⟩ : ∃ n, n = l.length := ⟨_, rfl⟩
  rw [← e] at C1 ⊢
  clear e hA hn hg
  have L0 := (fun h => Kp.ad50 h w.heap.size rfl (.int .i64 a) (.int .i64 b) (.int .i64 c) (.int .i64 d) (.slice A n k) 26) ⟨Nat.le_refl _, Below.refl w.heap.size w⟩
  have L1 := (Kp.two (Kp.behind _ (.cells #[.int .i64 v.1, .int .i64 v.2] 28)) (Kp.two (Kp.behind _ (.cells #[.int .i64 v.1, .int .i64 v.2] 28)) (Kp.one (Kp.behind _ (.cells #[.int .i64 v.1, .int .i64 v.2] 28)) (fun h => Kp.add0 h (w.heap.size + 1) (by simp) (.int .i64 v.1) (.int .i64 v.2) 28)))) L0
  have L2 := (Kp.two (Kp.behind _ (.cells #[.int .i64 0, .int .i64 0, .int .i64 0, .int .i64 0, .slice none 0 0] 26)) (Kp.two (Kp.behind _ (.cells #[.int .i64 0, .int .i64 0, .int .i64 0, .int .i64 0, .slice none 0 0] 26)) (Kp.two (Kp.behind _ (.cells #[.int .i64 0, .int .i64 0, .int .i64 0, .int .i64 0, .slice none 0 0] 26)) (Kp.one (Kp.behind _ (.cells #[.int .i64 0, .int .i64 0, .int .i64 0, .int .i64 0, .slice none 0 0] 26)) (fun h => Kp.ad50 h (w.heap.size + 1 + 1) (by simp) (.int .i64 0) (.int .i64 0) (.int .i64 0) (.int .i64 0) (.slice none 0 0) 26))))) L1
  have L := Lib.hid L2
  clear L0 L1 L2
  have z := L.out
  have F0 : ∀ o, (((w.alloc (.cells #[.int .i64 a, .int .i64 b, .int .i64 c, .int .i64 d, .slice A n k] 26)).alloc (.cells #[.int .i64 v.1, .int .i64 v.2] 28)).alloc (.cells #[.int .i64 0, .int .i64 0, .int .i64 0, .int .i64 0, .slice none 0 0] 26)).frozen? ⟨w.heap.size + 1 + 1, o, none⟩ = false := Kp.newsoft _ _ (by simp) _ _
  have Z0 : w.heap.size + 1 + 1 < (((w.alloc (.cells #[.int .i64 a, .int .i64 b, .int .i64 c, .int .i64 d, .slice A n k] 26)).alloc (.cells #[.int .i64 v.1, .int .i64 v.2] 28)).alloc (.cells #[.int .i64 0, .int .i64 0, .int .i64 0, .int .i64 0, .slice none 0 0] 26)).heap.size := by simp
  go_enter Try.func16, Try.ntmps16
  go_wp2_with fail
  refine (C1.out _ L.out.2.2.2.2.2.2.2.2.2.2.2.2.2).mono ?_
  rintro e w1 ⟨rfl, hb1⟩
  have K1 := Lib.hid ((Kp.two hb1 (Kp.two hb1 (Kp.two hb1 (Kp.two hb1 (Kp.two hb1 (Kp.two hb1 (Kp.ends hb1))))))) L.out)
  have z1 := K1.out
  have F1 := Kp.soft hb1 Z0 F0
  have Z1 : w.heap.size + 1 + 1 < w1.heap.size := Nat.lt_of_lt_of_le Z0 hb1.size
  clear hb1 z L F0 Z0
  go_wp2_with fail
  refine bodyPost_ret (v := .tuple #[.agg #[.int .i64 0, .int .i64 0, .int .i64 0, .int .i64 0, .slice none 0 0], .iface 37 (.int .i64 1)]) (by simp [results, Try.results16, go_sem, *]) rfl ⟨rfl, ?_⟩
  have B := K1.out.2.2.2.2.2.2.2.2.2.2.2.2.2
  exact (((((B.setCell (by simp; try omega) _).setCell (by simp; try omega) _).setCell (by simp; try omega) _).setCell (by simp; try omega) _).setCell (by simp; try omega) _)

theorem moveRect_no (a b c d : Int) (v : Pnt) (w : World) (hr : rmayB a b c d = true) (hm : (stepB v (a, b) && stepB v (c, d)) = false) :
    Calls Try.prog 34 #[.agg #[.int .i64 a, .int .i64 b, .int .i64 c, .int .i64 d], .agg #[.int .i64 v.1, .int .i64 v.2]] w fun e w' => e = .returned (.tuple #[.agg #[.int .i64 0, .int .i64 0, .int .i64 0, .int .i64 0, .slice none 0 0], .iface 37 (.int .i64 11)]) ∧ Below w.heap.size w w' := by
  cases h1 : stepB v (a, b)
  · exact moveRect_no1 a b c d v w hr h1
  · rw [h1, Bool.true_and] at hm
    exact moveRect_no2 a b c d v w hr h1 hm
theorem moveRect_ok (a b c d : Int) (v : Pnt) (w : World) (hr : rmayB a b c d = true) (hm : (stepB v (a, b) && stepB v (c, d)) = true) :
    Calls Try.prog 34 #[.agg #[.int .i64 a, .int .i64 b, .int .i64 c, .int .i64 d], .agg #[.int .i64 v.1, .int .i64 v.2]] w fun e w' => e = .returned (.tuple #[.agg #[.int .i64 (a + v.1), .int .i64 (b + v.2), .int .i64 (c + v.1), .int .i64 (d + v.2), .slice none 0 0], .nilIface]) ∧ Below w.heap.size w w' := by
  rw [Bool.and_eq_true] at hm
  exact moveRect_yes a b c d v w hr hm.1 hm.2

set_option maxHeartbeats 1000000 in
theorem rect_no (a b c d : Int) (A : Option Addr) (k : Nat) (v : Pnt) (w : World) (hr : rmayB a b c d = true) (hm : (stepB v (a, b) && stepB v (c, d)) = false) :
    Calls Try.prog 16 #[.agg #[.int .i64 a, .int .i64 b, .int .i64 c, .int .i64 d, .slice A 0 k], .agg #[.int .i64 v.1, .int .i64 v.2]] w fun e w' => e = .returned (.tuple #[.agg #[.int .i64 0, .int .i64 0, .int .i64 0, .int .i64 0, .slice none 0 0], .iface 37 (.int .i64 11)]) ∧ Below w.heap.size w w' := by
  have C1 := Lib.hid (fun W => may_no a b c d A k W)
  have C2 := Lib.hid (fun W => moveRect_no a b c d v W hr hm)
  rw [hr] at C1
  clear hr hm
  have L0 := (fun h => Kp.ad50 h w.heap.size rfl (.int .i64 a) (.int .i64 b) (.int .i64 c) (.int .i64 d) (.slice A 0 k) 26) ⟨Nat.le_refl _, Below.refl w.heap.size w⟩
  have L1 := (Kp.two (Kp.behind _ (.cells #[.int .i64 v.1, .int .i64 v.2] 28)) (Kp.two (Kp.behind _ (.cells #[.int .i64 v.1, .int .i64 v.2] 28)) (Kp.one (Kp.behind _ (.cells #[.int .i64 v.1, .int .i64 v.2] 28)) (fun h => Kp.add0 h (w.heap.size + 1) (by simp) (.int .i64 v.1) (.int .i64 v.2) 28)))) L0
  have L2 := (Kp.two (Kp.behind _ (.cells #[.int .i64 0, .int .i64 0, .int .i64 0, .int .i64 0, .slice none 0 0] 26)) (Kp.two (Kp.behind _ (.cells #[.int .i64 0, .int .i64 0, .int .i64 0, .int .i64 0, .slice none 0 0] 26)) (Kp.two (Kp.behind _ (.cells #[.int .i64 0, .int .i64 0, .int .i64 0, .int .i64 0, .slice none 0 0] 26)) (Kp.one (Kp.behind _ (.cells #[.int .i64 0, .int .i64 0, .int .i64 0, .int .i64 0, .slice none 0 0] 26)) (fun h => Kp.ad50 h (w.heap.size + 1 + 1) (by simp) (.int .i64 0) (.int .i64 0) (.int .i64 0) (.int .i64 0) (.slice none 0 0) 26))))) L1
  have L := Lib.hid L2
  clear L0 L1 L2
  have z := L.out
  have F0 : ∀ o, (((w.alloc (.cells #[.int .i64 a, .int .i64 b, .int .i64 c, .int .i64 d, .slice A 0 k] 26)).alloc (.cells #[.int .i64 v.1, .int .i64 v.2] 28)).alloc (.cells #[.int .i64 0, .int .i64 0, .int .i64 0, .int .i64 0, .slice none 0 0] 26)).frozen? ⟨w.heap.size + 1 + 1, o, none⟩ = false := Kp.newsoft _ _ (by simp) _ _
  have Z0 : w.heap.size + 1 + 1 < (((w.alloc (.cells #[.int .i64 a, .int .i64 b, .int .i64 c, .int .i64 d, .slice A 0 k] 26)).alloc (.cells #[.int .i64 v.1, .int .i64 v.2] 28)).alloc (.cells #[.int .i64 0, .int .i64 0, .int .i64 0, .int .i64 0, .slice none 0 0] 26)).heap.size := by simp
  go_enter Try.func16, Try.ntmps16
  go_wp2_with fail
  refine (C1.out _).mono ?_
  rintro e w1 ⟨rfl, hb1⟩
  have K1 := Lib.hid ((Kp.two hb1 (Kp.two hb1 (Kp.two hb1 (Kp.two hb1 (Kp.two hb1 (Kp.two hb1 (Kp.ends hb1))))))) L.out)
  have z1 := K1.out
  have F1 := Kp.soft hb1 Z0 F0
  have Z1 : w.heap.size + 1 + 1 < w1.heap.size := Nat.lt_of_lt_of_le Z0 hb1.size
  clear hb1 z L F0 Z0
  go_wp2_with fail
  refine (has_no a b c d A k _).mono ?_
  rintro e w2 ⟨rfl, hb2⟩
  have K2 := Lib.hid ((Kp.two hb2 (Kp.two hb2 (Kp.two hb2 (Kp.two hb2 (Kp.two hb2 (Kp.two hb2 (Kp.ends hb2))))))) K1.out)
  have z2 := K2.out
  have F2 := Kp.soft hb2 Z1 F1
  have Z2 : w.heap.size + 1 + 1 < w2.heap.size := Nat.lt_of_lt_of_le Z1 hb2.size
  clear hb2 z1 K1 F1 Z1
  go_wp2_with fail
  refine (C2.out _).mono ?_
  rintro e w3 ⟨rfl, hb3⟩
  have K3 := Lib.hid ((Kp.two hb3 (Kp.two hb3 (Kp.two hb3 (Kp.two hb3 (Kp.two hb3 (Kp.two hb3 (Kp.ends hb3))))))) K2.out)
  have z3 := K3.out
  have F3 := Kp.soft hb3 Z2 F2
  have Z3 : w.heap.size + 1 + 1 < w3.heap.size := Nat.lt_of_lt_of_le Z2 hb3.size
  clear hb3 z2 K2 F2 Z2
  go_wp2_with fail
  refine bodyPost_ret (v := .tuple #[.agg #[.int .i64 0, .int .i64 0, .int .i64 0, .int .i64 0, .slice none 0 0], .iface 37 (.int .i64 11)]) (by simp [results, Try.results16, go_sem, *]) rfl ⟨rfl, ?_⟩
  have B := K3.out.2.2.2.2.2.2.2.2.2.2.2.2.2
  exact (((((B.setCell (by simp; try omega) _).setCell (by simp; try omega) _).setCell (by simp; try omega) _).setCell (by simp; try omega) _).setCell (by simp; try omega) _)

set_option maxHeartbeats 1000000 in
theorem rect_yes (a b c d : Int) (A : Option Addr) (k : Nat) (v : Pnt) (w : World) (hr : rmayB a b c d = true) (hm : (stepB v (a, b) && stepB v (c, d)) = true) :
    Calls Try.prog 16 #[.agg #[.int .i64 a, .int .i64 b, .int .i64 c, .int .i64 d, .slice A 0 k], .agg #[.int .i64 v.1, .int .i64 v.2]] w fun e w' => e = .returned (.tuple #[.agg #[.int .i64 (a + v.1), .int .i64 (b + v.2), .int .i64 (c + v.1), .int .i64 (d + v.2), .slice none 0 0], .nilIface]) ∧ Below w.heap.size w w' := by
  have C1 := Lib.hid (fun W => may_no a b c d A k W)
  have C2 := Lib.hid (fun W => moveRect_ok a b c d v W hr hm)
  rw [hr] at C1
  clear hr hm
  have L0 := (fun h => Kp.ad50 h w.heap.size rfl (.int .i64 a) (.int .i64 b) (.int .i64 c) (.int .i64 d) (.slice A 0 k) 26) ⟨Nat.le_refl _, Below.refl w.heap.size w⟩
  have L1 := (Kp.two (Kp.behind _ (.cells #[.int .i64 v.1, .int .i64 v.2] 28)) (Kp.two (Kp.behind _ (.cells #[.int .i64 v.1, .int .i64 v.2] 28)) (Kp.one (Kp.behind _ (.cells #[.int .i64 v.1, .int .i64 v.2] 28)) (fun h => Kp.add0 h (w.heap.size + 1) (by simp) (.int .i64 v.1) (.int .i64 v.2) 28)))) L0
  have L2 := (Kp.two (Kp.behind _ (.cells #[.int .i64 0, .int .i64 0, .int .i64 0, .int .i64 0, .slice none 0 0] 26)) (Kp.two (Kp.behind _ (.cells #[.int .i64 0, .int .i64 0, .int .i64 0, .int .i64 0, .slice none 0 0] 26)) (Kp.two (Kp.behind _ (.cells #[.int .i64 0, .int .i64 0, .int .i64 0, .int .i64 0, .slice none 0 0] 26)) (Kp.one (Kp.behind _ (.cells #[.int .i64 0, .int .i64 0, .int .i64 0, .int .i64 0, .slice none 0 0] 26)) (fun h => Kp.ad50 h (w.heap.size + 1 + 1) (by simp) (.int .i64 0) (.int .i64 0) (.int .i64 0) (.int .i64 0) (.slice none 0 0) 26))))) L1
  have L := Lib.hid L2
  clear L0 L1 L2
  have z := L.out
  have F0 : ∀ o, (((w.alloc (.cells #[.int .i64 a, .int .i64 b, .int .i64 c, .int .i64 d, .slice A 0 k] 26)).alloc (.cells #[.int .i64 v.1, .int .i64 v.2] 28)).alloc (.cells #[.int .i64 0, .int .i64 0, .int .i64 0, .int .i64 0, .slice none 0 0] 26)).frozen? ⟨w.heap.size + 1 + 1, o, none⟩ = false := Kp.newsoft _ _ (by simp) _ _
  have Z0 : w.heap.size + 1 + 1 < (((w.alloc (.cells #[.int .i64 a, .int .i64 b, .int .i64 c, .int .i64 d, .slice A 0 k] 26)).alloc (.cells #[.int .i64 v.1, .int .i64 v.2] 28)).alloc (.cells #[.int .i64 0, .int .i64 0, .int .i64 0, .int .i64 0, .slice none 0 0] 26)).heap.size := by simp
  go_enter Try.func16, Try.ntmps16
  go_wp2_with fail
  refine (C1.out _).mono ?_
  rintro e w1 ⟨rfl, hb1⟩
  have K1 := Lib.hid ((Kp.two hb1 (Kp.two hb1 (Kp.two hb1 (Kp.two hb1 (Kp.two hb1 (Kp.two hb1 (Kp.ends hb1))))))) L.out)
  have z1 := K1.out
  have F1 := Kp.soft hb1 Z0 F0
  have Z1 : w.heap.size + 1 + 1 < w1.heap.size := Nat.lt_of_lt_of_le Z0 hb1.size
  clear hb1 z L F0 Z0
  go_wp2_with fail
  refine (has_no a b c d A k _).mono ?_
  rintro e w2 ⟨rfl, hb2⟩
  have K2 := Lib.hid ((Kp.two hb2 (Kp.two hb2 (Kp.two hb2 (Kp.two hb2 (Kp.two hb2 (Kp.two hb2 (Kp.ends hb2))))))) K1.out)
  have z2 := K2.out
  have F2 := Kp.soft hb2 Z1 F1
  have Z2 : w.heap.size + 1 + 1 < w2.heap.size := Nat.lt_of_lt_of_le Z1 hb2.size
  clear hb2 z1 K1 F1 Z1
  go_wp2_with fail
  refine (C2.out _).mono ?_
  rintro e w3 ⟨rfl, hb3⟩
  have K3 := Lib.hid ((Kp.two hb3 (Kp.two hb3 (Kp.two hb3 (Kp.two hb3 (Kp.two hb3 (Kp.two hb3 (Kp.ends hb3))))))) K2.out)
  have z3 := K3.out
  have F3 := Kp.soft hb3 Z2 F2
  have Z3 : w.heap.size + 1 + 1 < w3.heap.size := Nat.lt_of_lt_of_le Z2 hb3.size
  clear hb3 z2 K2 F2 Z2
  go_wp2_with fail
  refine bodyPost_ret (v := .tuple #[.agg #[.int .i64 (a + v.1), .int .i64 (b + v.2), .int .i64 (c + v.1), .int .i64 (d + v.2), .slice none 0 0], .nilIface]) (by simp [results, Try.results16, go_sem, *]) rfl ⟨rfl, ?_⟩
  have B := K3.out.2.2.2.2.2.2.2.2.2.2.2.2.2
  exact (((((B.setCell (by simp; try omega) _).setCell (by simp; try omega) _).setCell (by simp; try omega) _).setCell (by simp; try omega) _).setCell (by simp; try omega) _)

set_option maxHeartbeats 1000000 in
theorem move_poly (a b c d : Int) (l : List Pnt) (A : Option Addr) (k : Nat) (v : Pnt) (w : World) (hA : PtsAt w w.heap.size A l) (h0 : 0 < l.length) (hn : l.length ≤ 70) (hg : rgB a b c d l = true) :
    Calls Try.prog 16 #[.agg #[.int .i64 a, .int .i64 b, .int .i64 c, .int .i64 d, .slice A l.length k], .agg #[.int .i64 v.1, .int .i64 v.2]] w fun e w' => Below w.heap.size w w' ∧
      ((fineB l v = true ∧ ∃ g, e = .returned (.tuple #[.agg #[.int .i64 0, .int .i64 0, .int .i64 0, .int .i64 0, .slice (some ⟨g, 0, none⟩) l.length l.length], .nilIface]) ∧ PtsAt w' w'.heap.size (some ⟨g, 0, none⟩) (moveL l v) ∧ w.heap.size ≤ g) ∨
       (fineB l v = false ∧ e = .returned (.tuple #[.agg #[.int .i64 0, .int .i64 0, .int .i64 0, .int .i64 0, .slice none 0 0], .iface 37 (.int .i64 11)]))) := by
  have C1 := Lib.hid (fun W (h : Below w.heap.size w W) => may_any a b c d l A k W ((hA.later h).wide h.size) hn)
  rw [hg] at C1
  have C2 := Lib.hid (fun W (h : Below w.heap.size w W) => movePoly_any l A k v W ((hA.later h).wide h.size) (rgB_simple h0 hg).2)
  obtain ⟨n, e⟩ : ∃ n, n = l.length := ⟨_, rfl⟩
  rw [← e] at C1 C2 h0 hn ⊢
  clear e hA hg
  have L0 := (fun h => Kp.ad50 h w.heap.size rfl (.int .i64 a) (.int .i64 b) (.int .i64 c) (.int .i64 d) (.slice A n k) 26) ⟨Nat.le_refl _, Below.refl w.heap.size w⟩
  have L1 := (Kp.two (Kp.behind _ (.cells #[.int .i64 v.1, .int .i64 v.2] 28)) (Kp.two (Kp.behind _ (.cells #[.int .i64 v.1, .int .i64 v.2] 28)) (Kp.one (Kp.behind _ (.cells #[.int .i64 v.1, .int .i64 v.2] 28)) (fun h => Kp.add0 h (w.heap.size + 1) (by simp) (.int .i64 v.1) (.int .i64 v.2) 28)))) L0
  have L2 := (Kp.two (Kp.behind _ (.cells #[.int .i64 0, .int .i64 0, .int .i64 0, .int .i64 0, .slice none 0 0] 26)) (Kp.two (Kp.behind _ (.cells #[.int .i64 0, .int .i64 0, .int .i64 0, .int .i64 0, .slice none 0 0] 26)) (Kp.two (Kp.behind _ (.cells #[.int .i64 0, .int .i64 0, .int .i64 0, .int .i64 0, .slice none 0 0] 26)) (Kp.one (Kp.behind _ (.cells #[.int .i64 0, .int .i64 0, .int .i64 0, .int .i64 0, .slice none 0 0] 26)) (fun h => Kp.ad50 h (w.heap.size + 1 + 1) (by simp) (.int .i64 0) (.int .i64 0) (.int .i64 0) (.int .i64 0) (.slice none 0 0) 26))))) L1
  have L := Lib.hid L2
  clear L0 L1 L2
  have z := L.out
  have F0 : ∀ o, (((w.alloc (.cells #[.int .i64 a, .int .i64 b, .int .i64 c, .int .i64 d, .slice A n k] 26)).alloc (.cells #[.int .i64 v.1, .int .i64 v.2] 28)).alloc (.cells #[.int .i64 0, .int .i64 0, .int .i64 0, .int .i64 0, .slice none 0 0] 26)).frozen? ⟨w.heap.size + 1 + 1, o, none⟩ = false := Kp.newsoft _ _ (by simp) _ _
  have Z0 : w.heap.size + 1 + 1 < (((w.alloc (.cells #[.int .i64 a, .int .i64 b, .int .i64 c, .int .i64 d, .slice A n k] 26)).alloc (.cells #[.int .i64 v.1, .int .i64 v.2] 28)).alloc (.cells #[.int .i64 0, .int .i64 0, .int .i64 0, .int .i64 0, .slice none 0 0] 26)).heap.size := by simp
  go_enter Try.func16, Try.ntmps16
  go_wp2_with fail
  refine (C1.out _ L.out.2.2.2.2.2.2.2.2.2.2.2.2.2).mono ?_
  rintro e w1 ⟨rfl, hb1⟩
  have K1 := Lib.hid ((Kp.two hb1 (Kp.two hb1 (Kp.two hb1 (Kp.two hb1 (Kp.two hb1 (Kp.two hb1 (Kp.ends hb1))))))) L.out)
  have z1 := K1.out
  have F1 := Kp.soft hb1 Z0 F0
  have Z1 : w.heap.size + 1 + 1 < w1.heap.size := Nat.lt_of_lt_of_le Z0 hb1.size
  clear hb1 z L F0 Z0
  go_wp2_with fail
  refine (has_yes a b c d A n k _ h0 hn).mono ?_
  rintro e w2 ⟨rfl, hb2⟩
  have K2 := Lib.hid ((Kp.two hb2 (Kp.two hb2 (Kp.two hb2 (Kp.two hb2 (Kp.two hb2 (Kp.two hb2 (Kp.ends hb2))))))) K1.out)
  have z2 := K2.out
  have F2 := Kp.soft hb2 Z1 F1
  have Z2 : w.heap.size + 1 + 1 < w2.heap.size := Nat.lt_of_lt_of_le Z1 hb2.size
  clear hb2 z1 K1 F1 Z1
  go_wp2_with fail
  refine (C2.out _ K2.out.2.2.2.2.2.2.2.2.2.2.2.2.2).mono ?_
  rintro e w3 ⟨hb3, h⟩
  have K3 := Lib.hid ((Kp.two hb3 (Kp.two hb3 (Kp.two hb3 (Kp.two hb3 (Kp.two hb3 (Kp.two hb3 (Kp.ends hb3))))))) K2.out)
  have z3 := K3.out
  have F3 := Kp.soft hb3 Z2 F2
  have HZ := K2.out.2.2.2.2.2.2.2.2.2.2.2.2.2.size
  clear hb3 z2 K2 F2
  rcases h with ⟨hf, g, rfl, hP, hg⟩ | ⟨hf, rfl⟩
  · have HP := Lib.hid hP
    have HG : g ≠ w.heap.size + 1 + 1 := by omega
    have HGw : w.heap.size ≤ g := by omega
    clear hP hg
    go_wp2_with fail
    refine bodyPost_ret (v := .tuple #[.agg #[.int .i64 0, .int .i64 0, .int .i64 0, .int .i64 0, .slice (some ⟨g, 0, none⟩) n n], .nilIface]) (by simp [results, Try.results16, go_sem, *]) rfl ⟨?_, Or.inl ⟨hf, g, rfl, ?_, HGw⟩⟩
    · have B := K3.out.2.2.2.2.2.2.2.2.2.2.2.2.2
      exact (((((B.setCell (by simp; try omega) _).setCell (by simp; try omega) _).setCell (by simp; try omega) _).setCell (by simp; try omega) _).setCell (by simp; try omega) _)
    · have Q := pts_far (o := 4) (x := .slice (some ⟨g, 0, none⟩) n n) (pts_far (o := 3) (x := .int .i64 0) (pts_far (o := 2) (x := .int .i64 0) (pts_far (o := 1) (x := .int .i64 0) (pts_far (o := 0) (x := .int .i64 0) HP.out HG) HG) HG) HG) HG
      simpa using Q
  · go_wp2_with fail
    refine bodyPost_ret (v := .tuple #[.agg #[.int .i64 0, .int .i64 0, .int .i64 0, .int .i64 0, .slice none 0 0], .iface 37 (.int .i64 11)]) (by simp [results, Try.results16, go_sem, *]) rfl ⟨?_, Or.inr ⟨hf, rfl⟩⟩
    have B := K3.out.2.2.2.2.2.2.2.2.2.2.2.2.2
    exact (((((B.setCell (by simp; try omega) _).setCell (by simp; try omega) _).setCell (by simp; try omega) _).setCell (by simp; try omega) _).setCell (by simp; try omega) _)

/-- What a move of a region that may be tells; its points lie in a new block. -/
def MvEnd (w : World) (a b c d : Int) (l : List Pnt) (v : Pnt) (nil bad : Value) (e : Ending) (w' : World) : Prop :=
  Below w.heap.size w w' ∧ ((mvB a b c d l v = true ∧ ∃ B q, e = .returned (.tuple #[.agg #[.int .i64 (mvN l a v.1), .int .i64 (mvN l b v.2), .int .i64 (mvN l c v.1), .int .i64 (mvN l d v.2), .slice B (moveL l v).length q], nil]) ∧ PtsAt w' w'.heap.size B (moveL l v) ∧ (∀ g o s, B = some ⟨g, o, s⟩ → w.heap.size ≤ g)) ∨
    (mvB a b c d l v = false ∧ e = .returned (.tuple #[.agg #[.int .i64 0, .int .i64 0, .int .i64 0, .int .i64 0, .slice none 0 0], bad])))
theorem move_any (a b c d : Int) (l : List Pnt) (A : Option Addr) (k : Nat) (v : Pnt) (w : World) (hA : PtsAt w w.heap.size A l) (hn : l.length ≤ 70) (hg : rgB a b c d l = true) :
    Calls Try.prog 16 #[.agg #[.int .i64 a, .int .i64 b, .int .i64 c, .int .i64 d, .slice A l.length k], .agg #[.int .i64 v.1, .int .i64 v.2]] w (MvEnd w a b c d l v .nilIface (.iface 37 (.int .i64 11))) := by
  rcases Nat.eq_zero_or_pos l.length with h | h
  · have hl : l = [] := List.length_eq_zero_iff.1 h
    rw [rgB_no h] at hg
    cases hm : (stepB v (a, b) && stepB v (c, d))
    · rw [h]
      refine (rect_no a b c d A k v w hg hm).mono ?_
      rintro e w' ⟨rfl, hb⟩
      exact ⟨hb, Or.inr ⟨by rw [mvB_rect h, hm], rfl⟩⟩
    · rw [h]
      refine (rect_yes a b c d A k v w hg hm).mono ?_
      rintro e w' ⟨rfl, hb⟩
      refine ⟨hb, Or.inl ⟨by rw [mvB_rect h, hm], none, 0, ?_, ?_, fun g o s e => by cases e⟩⟩
      · rw [mvN_rect h, mvN_rect h, mvN_rect h, mvN_rect h, moveL_len, h]
      · subst hl
        exact fun h => absurd rfl h
  · refine (move_poly a b c d l A k v w hA h hn hg).mono ?_
    rintro e w' ⟨hb, ⟨hf, g, rfl, hP, hg⟩ | ⟨hf, rfl⟩⟩
    · refine ⟨hb, Or.inl ⟨by rw [mvB_poly h, hf], some ⟨g, 0, none⟩, l.length, ?_, hP, fun g' o s e => by cases e; exact hg⟩⟩
      rw [mvN_poly h, mvN_poly h, mvN_poly h, mvN_poly h, moveL_len]
    · exact ⟨hb, Or.inr ⟨by rw [mvB_poly h, hf], rfl⟩⟩
end Go.Proofs.Ytiggjaodfmelpaa.Rg
