/-
  Contracts of Box and In of layer 16 (region), of the document's Box and In, and of its add. Memory that was there is left as it was.
-/
import Derived.Test.YtiggjaodfmelpaaRgSmall
import Derived.Test.YtiggjaodfmelpaaRcOf
import Derived.Test.YtiggjaodfmelpaaRcRefOf
import Derived.Test.YtiggjaodfmelpaaRcSub
import Derived.Test.YtiggjaodfmelpaaPlRefI
import Derived.Test.YtiggjaodfmelpaaPlMove
namespace Go.Proofs.Ytiggjaodfmelpaa.Rg
open Go.RowKit Go.Proofs.Ytiggjaodfmelpaa.Pt Go.Proofs.Ytiggjaodfmelpaa.Rc Go.Proofs.Ytiggjaodfmelpaa.Pts Go.Proofs.Ytiggjaodfmelpaa.Pl
set_option linter.unusedVariables false

set_option maxHeartbeats 1000000 in
theorem box_bad (a b c d : Int) (l : List Pnt) (A : Option Addr) (k : Nat) (w : World) (hA : PtsAt w w.heap.size A l) (hn : l.length ≤ 70) (hg : rgB a b c d l = false) :
    Calls Try.prog 9 #[.agg #[.int .i64 a, .int .i64 b, .int .i64 c, .int .i64 d, .slice A l.length k]] w fun e w' => e = .returned (.tuple #[.agg #[.int .i64 0, .int .i64 0, .int .i64 0, .int .i64 0], .iface 37 (.int .i64 1)]) ∧ Below w.heap.size w w' := by
  have C1 := Lib.hid (fun W (h : Below w.heap.size w W) => may_any a b c d l A k W ((hA.later h).wide h.size) hn)
  rw [hg] at C1
  obtain ⟨n, e⟩ : ∃ n, n = l.length := ⟨_, rfl⟩
  rw [← e] at C1 ⊢
  clear e hA hn hg
  have L := Lib.hid ((Kp.two (Kp.behind _ (.cells #[.int .i64 0, .int .i64 0, .int .i64 0, .int .i64 0] 23)) (Kp.two (Kp.behind _ (.cells #[.int .i64 0, .int .i64 0, .int .i64 0, .int .i64 0] 23)) (Kp.one (Kp.behind _ (.cells #[.int .i64 0, .int .i64 0, .int .i64 0, .int .i64 0] 23)) (fun h => Kp.adq0 h (w.heap.size + 1) (by simp) (.int .i64 0) (.int .i64 0) (.int .i64 0) (.int .i64 0) 23)))) ((fun h => Kp.ad50 h w.heap.size rfl (.int .i64 a) (.int .i64 b) (.int .i64 c) (.int .i64 d) (.slice A n k) 26) ⟨Nat.le_refl _, Below.refl w.heap.size w⟩))
  have z := L.out
  have F0 : ∀ o, ((w.alloc (.cells #[.int .i64 a, .int .i64 b, .int .i64 c, .int .i64 d, .slice A n k] 26)).alloc (.cells #[.int .i64 0, .int .i64 0, .int .i64 0, .int .i64 0] 23)).frozen? ⟨w.heap.size + 1, o, none⟩ = false := fun o => by simp
  go_enter Try.func9, Try.ntmps9
  go_wp2_with fail
  refine (C1.out _ L.out.2.2.2.2.2.2.2.2.2.2).mono ?_
  rintro e w1 ⟨rfl, hb1⟩
  have K1 := Lib.hid ((Kp.two hb1 (Kp.two hb1 (Kp.two hb1 (Kp.two hb1 (Kp.one hb1 (Kp.ends hb1)))))) L.out)
  have z1 := K1.out
  have F1 := Kp.soft hb1 (by simp) F0
  have Z1 : w.heap.size + 1 < w1.heap.size := Nat.lt_of_lt_of_le (by simp) hb1.size
  clear hb1 z L F0
  go_wp2_with fail
  refine bodyPost_ret (v := .tuple #[.agg #[.int .i64 0, .int .i64 0, .int .i64 0, .int .i64 0], .iface 37 (.int .i64 1)]) (by simp [results, Try.results9, go_sem, *]) rfl ⟨rfl, ?_⟩
  have B := K1.out.2.2.2.2.2.2.2.2.2.2
  exact ((((B.setCell (by simp) _).setCell (by simp) _).setCell (by simp) _).setCell (by simp) _)
set_option maxHeartbeats 1000000 in
theorem box_rect (a b c d : Int) (A : Option Addr) (k : Nat) (w : World) (hg : rmayB a b c d = true) :
    Calls Try.prog 9 #[.agg #[.int .i64 a, .int .i64 b, .int .i64 c, .int .i64 d, .slice A 0 k]] w fun e w' => e = .returned (.tuple #[.agg #[.int .i64 a, .int .i64 b, .int .i64 c, .int .i64 d], .nilIface]) ∧ Below w.heap.size w w' := by
  have C1 := Lib.hid (fun W => may_no a b c d A k W)
  rw [hg] at C1
  clear hg
  have L := Lib.hid ((Kp.two (Kp.behind _ (.cells #[.int .i64 0, .int .i64 0, .int .i64 0, .int .i64 0] 23)) (Kp.two (Kp.behind _ (.cells #[.int .i64 0, .int .i64 0, .int .i64 0, .int .i64 0] 23)) (Kp.one (Kp.behind _ (.cells #[.int .i64 0, .int .i64 0, .int .i64 0, .int .i64 0] 23)) (fun h => Kp.adq0 h (w.heap.size + 1) (by simp) (.int .i64 0) (.int .i64 0) (.int .i64 0) (.int .i64 0) 23)))) ((fun h => Kp.ad50 h w.heap.size rfl (.int .i64 a) (.int .i64 b) (.int .i64 c) (.int .i64 d) (.slice A 0 k) 26) ⟨Nat.le_refl _, Below.refl w.heap.size w⟩))
  have z := L.out
  have F0 : ∀ o, ((w.alloc (.cells #[.int .i64 a, .int .i64 b, .int .i64 c, .int .i64 d, .slice A 0 k] 26)).alloc (.cells #[.int .i64 0, .int .i64 0, .int .i64 0, .int .i64 0] 23)).frozen? ⟨w.heap.size + 1, o, none⟩ = false := fun o => by simp
  go_enter Try.func9, Try.ntmps9
  go_wp2_with fail
  refine (C1.out _).mono ?_
  rintro e w1 ⟨rfl, hb1⟩
  have K1 := Lib.hid ((Kp.two hb1 (Kp.two hb1 (Kp.two hb1 (Kp.two hb1 (Kp.one hb1 (Kp.ends hb1)))))) L.out)
  have z1 := K1.out
  have F1 := Kp.soft hb1 (by simp) F0
  have Z1 : w.heap.size + 1 < w1.heap.size := Nat.lt_of_lt_of_le (by simp) hb1.size
  clear hb1 z L F0
  go_wp2_with fail
  refine (has_no a b c d A k _).mono ?_
  rintro e w2 ⟨rfl, hb2⟩
  have K2 := Lib.hid ((Kp.two hb2 (Kp.two hb2 (Kp.two hb2 (Kp.two hb2 (Kp.one hb2 (Kp.ends hb2)))))) K1.out)
  have z2 := K2.out
  have F2 := Kp.soft hb2 Z1 F1
  have Z2 : w.heap.size + 1 < w2.heap.size := Nat.lt_of_lt_of_le Z1 hb2.size
  clear hb2 z1 K1 F1 Z1
  go_wp2_with fail
  refine bodyPost_ret (v := .tuple #[.agg #[.int .i64 a, .int .i64 b, .int .i64 c, .int .i64 d], .nilIface]) (by simp [results, Try.results9, go_sem, *]) rfl ⟨rfl, ?_⟩
  have B := K2.out.2.2.2.2.2.2.2.2.2.2
  exact ((((B.setCell (by simp) _).setCell (by simp) _).setCell (by simp) _).setCell (by simp) _)
set_option maxHeartbeats 1000000 in
theorem box_poly (a b c d : Int) (l : List Pnt) (A : Option Addr) (k : Nat) (w : World) (hA : PtsAt w w.heap.size A l) (h0 : 0 < l.length) (hn : l.length ≤ 70) (hg : rgB a b c d l = true) :
    Calls Try.prog 9 #[.agg #[.int .i64 a, .int .i64 b, .int .i64 c, .int .i64 d, .slice A l.length k]] w fun e w' => e = .returned (.tuple #[.agg #[.int .i64 (ofR l).x1, .int .i64 (ofR l).y1, .int .i64 (ofR l).x2, .int .i64 (ofR l).y2], .nilIface]) ∧ Below w.heap.size w w' := by
  have C1 := Lib.hid (fun W (h : Below w.heap.size w W) => may_any a b c d l A k W ((hA.later h).wide h.size) hn)
  rw [hg] at C1
  have C2 := Lib.hid (fun W (h : Below w.heap.size w W) => of_any l A k W ((hA.later h).wide h.size) (by omega))
  obtain ⟨r, er⟩ : ∃ r, r = ofR l := ⟨_, rfl⟩
  obtain ⟨ok, eo⟩ : ∃ o, o = ofB l := ⟨_, rfl⟩
  rw [← er, ← eo] at C2
  rw [← er]
  obtain ⟨n, e⟩ : ∃ n, n = l.length := ⟨_, rfl⟩
  rw [← e] at C1 C2 h0 hn ⊢
  clear e hA hg er eo
  have L := Lib.hid ((Kp.two (Kp.behind _ (.cells #[.int .i64 0, .int .i64 0, .int .i64 0, .int .i64 0] 23)) (Kp.two (Kp.behind _ (.cells #[.int .i64 0, .int .i64 0, .int .i64 0, .int .i64 0] 23)) (Kp.one (Kp.behind _ (.cells #[.int .i64 0, .int .i64 0, .int .i64 0, .int .i64 0] 23)) (fun h => Kp.adq0 h (w.heap.size + 1) (by simp) (.int .i64 0) (.int .i64 0) (.int .i64 0) (.int .i64 0) 23)))) ((fun h => Kp.ad50 h w.heap.size rfl (.int .i64 a) (.int .i64 b) (.int .i64 c) (.int .i64 d) (.slice A n k) 26) ⟨Nat.le_refl _, Below.refl w.heap.size w⟩))
  have z := L.out
  have F0 : ∀ o, ((w.alloc (.cells #[.int .i64 a, .int .i64 b, .int .i64 c, .int .i64 d, .slice A n k] 26)).alloc (.cells #[.int .i64 0, .int .i64 0, .int .i64 0, .int .i64 0] 23)).frozen? ⟨w.heap.size + 1, o, none⟩ = false := fun o => by simp
  go_enter Try.func9, Try.ntmps9
  go_wp2_with fail
  refine (C1.out _ L.out.2.2.2.2.2.2.2.2.2.2).mono ?_
  rintro e w1 ⟨rfl, hb1⟩
  have K1 := Lib.hid ((Kp.two hb1 (Kp.two hb1 (Kp.two hb1 (Kp.two hb1 (Kp.one hb1 (Kp.ends hb1)))))) L.out)
  have z1 := K1.out
  have F1 := Kp.soft hb1 (by simp) F0
  have Z1 : w.heap.size + 1 < w1.heap.size := Nat.lt_of_lt_of_le (by simp) hb1.size
  clear hb1 z L F0
  go_wp2_with fail
  refine (has_yes a b c d A n k _ h0 hn).mono ?_
  rintro e w2 ⟨rfl, hb2⟩
  have K2 := Lib.hid ((Kp.two hb2 (Kp.two hb2 (Kp.two hb2 (Kp.two hb2 (Kp.one hb2 (Kp.ends hb2)))))) K1.out)
  have z2 := K2.out
  have F2 := Kp.soft hb2 Z1 F1
  have Z2 : w.heap.size + 1 < w2.heap.size := Nat.lt_of_lt_of_le Z1 hb2.size
  clear hb2 z1 K1 F1 Z1
  go_wp2_with fail
  refine (C2.out _ K2.out.2.2.2.2.2.2.2.2.2.2).mono ?_
  rintro e w3 ⟨rfl, hb3⟩
  have K3 := Lib.hid ((Kp.two hb3 (Kp.two hb3 (Kp.two hb3 (Kp.two hb3 (Kp.one hb3 (Kp.ends hb3)))))) K2.out)
  have z3 := K3.out
  have F3 := Kp.soft hb3 Z2 F2
  have Z3 : w.heap.size + 1 < w3.heap.size := Nat.lt_of_lt_of_le Z2 hb3.size
  clear hb3 z2 K2 F2 Z2
  go_wp2_with fail
  refine bodyPost_ret (v := .tuple #[.agg #[.int .i64 r.x1, .int .i64 r.y1, .int .i64 r.x2, .int .i64 r.y2], .nilIface]) (by simp [results, Try.results9, go_sem, *]) rfl ⟨rfl, ?_⟩
  have B := K3.out.2.2.2.2.2.2.2.2.2.2
  exact ((((B.setCell (by simp) _).setCell (by simp) _).setCell (by simp) _).setCell (by simp) _).alloc (by have := B.size; simp; omega) _
theorem box_any (a b c d : Int) (l : List Pnt) (A : Option Addr) (k : Nat) (w : World) (hA : PtsAt w w.heap.size A l) (hn : l.length ≤ 70) (hg : rgB a b c d l = true) :
    Calls Try.prog 9 #[.agg #[.int .i64 a, .int .i64 b, .int .i64 c, .int .i64 d, .slice A l.length k]] w fun e w' => e = .returned (.tuple #[.agg #[.int .i64 (rgX a b c d l).x1, .int .i64 (rgX a b c d l).y1, .int .i64 (rgX a b c d l).x2, .int .i64 (rgX a b c d l).y2], .nilIface]) ∧ Below w.heap.size w w' := by
  rcases Nat.eq_zero_or_pos l.length with h | h
  · have e : rgX a b c d l = ⟨a, b, c, d⟩ := by unfold rgX; rw [if_pos h]
    rw [e, h]
    rw [rgB_no h] at hg
    exact box_rect a b c d A k w hg
  · have e : rgX a b c d l = ofR l := by unfold rgX; rw [if_neg (by omega)]
    rw [e]
    exact box_poly a b c d l A k w hA h hn hg
set_option maxHeartbeats 1000000 in
theorem refBox_rect (a b c d : Int) (A : Option Addr) (k : Nat) (w : World) :
    Calls Try.prog 15 #[.agg #[.int .i64 a, .int .i64 b, .int .i64 c, .int .i64 d, .slice A 0 k]] w fun e w' => e = .returned (.agg #[.int .i64 a, .int .i64 b, .int .i64 c, .int .i64 d]) ∧ Below w.heap.size w w' := by
  have L := Lib.hid ((Kp.two (Kp.behind _ (.cells #[.int .i64 0, .int .i64 0, .int .i64 0, .int .i64 0] 23)) (Kp.two (Kp.behind _ (.cells #[.int .i64 0, .int .i64 0, .int .i64 0, .int .i64 0] 23)) (Kp.one (Kp.behind _ (.cells #[.int .i64 0, .int .i64 0, .int .i64 0, .int .i64 0] 23)) (fun h => Kp.adq0 h (w.heap.size + 1) (by simp) (.int .i64 0) (.int .i64 0) (.int .i64 0) (.int .i64 0) 23)))) ((fun h => Kp.ad50 h w.heap.size rfl (.int .i64 a) (.int .i64 b) (.int .i64 c) (.int .i64 d) (.slice A 0 k) 26) ⟨Nat.le_refl _, Below.refl w.heap.size w⟩))
  have z := L.out
  go_enter Try.func15, Try.ntmps15
  go_wp2_with fail
  refine bodyPost_ret (v := .agg #[.int .i64 a, .int .i64 b, .int .i64 c, .int .i64 d]) (by simp [results, Try.results15, go_sem, *]) rfl ⟨rfl, ?_⟩
  have B := L.out.2.2.2.2.2.2.2.2.2.2
  first | exact ((((B.setCell (by simp) _).setCell (by simp) _).setCell (by simp) _).setCell (by simp) _) | exact ((Below.refl _ _).alloc (Nat.le_refl _) _).alloc (by simp) _
set_option maxHeartbeats 1000000 in
theorem refBox_poly (a b c d : Int) (l : List Pnt) (A : Option Addr) (k : Nat) (w : World) (hA : PtsAt w w.heap.size A l) (h0 : 0 < l.length) (hn : l.length ≤ 70) :
    Calls Try.prog 15 #[.agg #[.int .i64 a, .int .i64 b, .int .i64 c, .int .i64 d, .slice A l.length k]] w fun e w' => e = .returned (.agg #[.int .i64 (ofR l).x1, .int .i64 (ofR l).y1, .int .i64 (ofR l).x2, .int .i64 (ofR l).y2]) ∧ Below w.heap.size w w' := by
  have C2 := Lib.hid (fun W (h : Below w.heap.size w W) => refOf_any l A k W ((hA.later h).wide h.size) (by omega))
  obtain ⟨r, er⟩ : ∃ r, r = ofR l := ⟨_, rfl⟩
  obtain ⟨ok, eo⟩ : ∃ o, o = ofB l := ⟨_, rfl⟩
  rw [← er, ← eo] at C2
  rw [← er]
  obtain ⟨n, e⟩ : ∃ n, n = l.length := ⟨_, rfl⟩
  rw [← e] at C2 h0 hn ⊢
  clear e hA er eo
  have h2 : ¬ (n : Int) = 0 := by omega
  have L := Lib.hid ((Kp.two (Kp.behind _ (.cells #[.int .i64 0, .int .i64 0, .int .i64 0, .int .i64 0] 23)) (Kp.two (Kp.behind _ (.cells #[.int .i64 0, .int .i64 0, .int .i64 0, .int .i64 0] 23)) (Kp.one (Kp.behind _ (.cells #[.int .i64 0, .int .i64 0, .int .i64 0, .int .i64 0] 23)) (fun h => Kp.adq0 h (w.heap.size + 1) (by simp) (.int .i64 0) (.int .i64 0) (.int .i64 0) (.int .i64 0) 23)))) ((fun h => Kp.ad50 h w.heap.size rfl (.int .i64 a) (.int .i64 b) (.int .i64 c) (.int .i64 d) (.slice A n k) 26) ⟨Nat.le_refl _, Below.refl w.heap.size w⟩))
  have z := L.out
  have F0 : ∀ o, ((w.alloc (.cells #[.int .i64 a, .int .i64 b, .int .i64 c, .int .i64 d, .slice A n k] 26)).alloc (.cells #[.int .i64 0, .int .i64 0, .int .i64 0, .int .i64 0] 23)).frozen? ⟨w.heap.size + 1, o, none⟩ = false := fun o => by simp
  go_enter Try.func15, Try.ntmps15
  go_wp2_with fail
  refine (C2.out _ L.out.2.2.2.2.2.2.2.2.2.2).mono ?_
  rintro e w3 ⟨rfl, hb3⟩
  have K3 := Lib.hid ((Kp.two hb3 (Kp.two hb3 (Kp.two hb3 (Kp.two hb3 (Kp.one hb3 (Kp.ends hb3)))))) L.out)
  have z3 := K3.out
  have F3 := Kp.soft hb3 (by simp) F0
  have Z3 : w.heap.size + 1 < w3.heap.size := Nat.lt_of_lt_of_le (by simp) hb3.size
  clear hb3 z L F0
  go_wp2_with fail
  refine bodyPost_ret (v := .agg #[.int .i64 r.x1, .int .i64 r.y1, .int .i64 r.x2, .int .i64 r.y2]) (by simp [results, Try.results15, go_sem, *]) rfl ⟨rfl, ?_⟩
  have B := K3.out.2.2.2.2.2.2.2.2.2.2
  exact ((((B.setCell (by simp) _).setCell (by simp) _).setCell (by simp) _).setCell (by simp) _).alloc (by have := B.size; simp; omega) _
theorem refBox_any (a b c d : Int) (l : List Pnt) (A : Option Addr) (k : Nat) (w : World) (hA : PtsAt w w.heap.size A l) (hn : l.length ≤ 70) :
    Calls Try.prog 15 #[.agg #[.int .i64 a, .int .i64 b, .int .i64 c, .int .i64 d, .slice A l.length k]] w fun e w' => e = .returned (.agg #[.int .i64 (rgX a b c d l).x1, .int .i64 (rgX a b c d l).y1, .int .i64 (rgX a b c d l).x2, .int .i64 (rgX a b c d l).y2]) ∧ Below w.heap.size w w' := by
  rcases Nat.eq_zero_or_pos l.length with h | h
  · have e : rgX a b c d l = ⟨a, b, c, d⟩ := by unfold rgX; rw [if_pos h]
    rw [e, h]
    exact refBox_rect a b c d A k w
  · have e : rgX a b c d l = ofR l := by unfold rgX; rw [if_neg (by omega)]
    rw [e]
    exact refBox_poly a b c d l A k w hA h hn
end Go.Proofs.Ytiggjaodfmelpaa.Rg
