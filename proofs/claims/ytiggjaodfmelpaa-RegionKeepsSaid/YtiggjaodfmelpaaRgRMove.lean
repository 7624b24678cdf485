/-
  Contract of the document's Move of layer 16 (region). Memory that was there is left as it was; the points that it tells lie in a new block.
-/
import Derived.Test.YtiggjaodfmelpaaRgMoveT
namespace Go.Proofs.Ytiggjaodfmelpaa.Rg
open Go.RowKit Go.Proofs.Ytiggjaodfmelpaa.Pt Go.Proofs.Ytiggjaodfmelpaa.Rc Go.Proofs.Ytiggjaodfmelpaa.Pts Go.Proofs.Ytiggjaodfmelpaa.Pl
set_option linter.unusedVariables false
set_option linter.unusedSimpArgs false

set_option maxHeartbeats 2000000 in
set_option maxRecDepth 100000 in
theorem refMove_arg (a b c d : Int) (l : List Pnt) (A : Option Addr) (k : Nat) (v : Pnt) (w : World) (hA : PtsAt w w.heap.size A l) (hn : l.length ≤ 70) (hg : rgB a b c d l = false) :
    Calls Try.prog 17 #[.agg #[.int .i64 a, .int .i64 b, .int .i64 c, .int .i64 d, .slice A l.length k], .agg #[.int .i64 v.1, .int .i64 v.2]] w fun e w' => e = .returned (.tuple #[.agg #[.int .i64 0, .int .i64 0, .int .i64 0, .int .i64 0, .slice none 0 0], .int .i64 1]) ∧ Below w.heap.size w w' := by
  have C1 := Lib.hid (fun W (h : Below w.heap.size w W) => refRegion_any a b c d l A k W ((hA.later h).wide h.size) hn)
  rw [hg] at C1
  obtain ⟨n, e⟩ : ∃ n, n = l.length := ⟨_, rfl⟩
  rw [← e] at C1 ⊢
  clear e hA hn hg
  have L0 := (fun h => Kp.ad50 h w.heap.size rfl (.int .i64 a) (.int .i64 b) (.int .i64 c) (.int .i64 d) (.slice A n k) 26) ⟨Nat.le_refl _, Below.refl w.heap.size w⟩
  have L1 := (Kp.two (Kp.behind _ (.cells #[.int .i64 v.1, .int .i64 v.2] 28)) (Kp.two (Kp.behind _ (.cells #[.int .i64 v.1, .int .i64 v.2] 28)) (Kp.one (Kp.behind _ (.cells #[.int .i64 v.1, .int .i64 v.2] 28)) (fun h => Kp.add0 h (w.heap.size + 1) (by simp) (.int .i64 v.1) (.int .i64 v.2) 28)))) L0
  have L2 := (Kp.two (Kp.behind _ (.cells #[.int .i64 0, .int .i64 0, .int .i64 0, .int .i64 0, .slice none 0 0] 26)) (Kp.two (Kp.behind _ (.cells #[.int .i64 0, .int .i64 0, .int .i64 0, .int .i64 0, .slice none 0 0] 26)) (Kp.two (Kp.behind _ (.cells #[.int .i64 0, .int .i64 0, .int .i64 0, .int .i64 0, .slice none 0 0] 26)) (Kp.one (Kp.behind _ (.cells #[.int .i64 0, .int .i64 0, .int .i64 0, .int .i64 0, .slice none 0 0] 26)) (fun h => Kp.ad50 h (w.heap.size + 1 + 1) (by simp) (.int .i64 0) (.int .i64 0) (.int .i64 0) (.int .i64 0) (.slice none 0 0) 26))))) L1
  have L := Lib.hid L2
  clear L0 L1 L2
  have z := L.out
  have F0 : ∀ o, (((w.alloc (.cells #[.int .i64 a, .int .i64 b, .int .i64 c, .int .i64 d, .slice A n k] 26)).alloc (.cells #[.int .i64 v.1, .int .i64 v.2] 28)).alloc (.cells #[.int .i64 0, .int .i64 0, .int .i64 0, .int .i64 0, .slice none 0 0] 26)).frozen? ⟨w.heap.size + 1 + 1, o, none⟩ = false := Kp.newsoft _ _ (by simp) _ _
  have Z0 : w.heap.size + 1 + 1 < (((w.alloc (.cells #[.int .i64 a, .int .i64 b, .int .i64 c, .int .i64 d, .slice A n k] 26)).alloc (.cells #[.int .i64 v.1, .int .i64 v.2] 28)).alloc (.cells #[.int .i64 0, .int .i64 0, .int .i64 0, .int .i64 0, .slice none 0 0] 26)).heap.size := by simp
  go_enter Try.func17, Try.ntmps17
  go_wp2_with fail
  refine (C1.out _ L.out.2.2.2.2.2.2.2.2.2.2.2.2.2).mono ?_
  rintro e w1 ⟨rfl, hb1⟩
  have K1 := Lib.hid ((Kp.two hb1 (Kp.two hb1 (Kp.two hb1 (Kp.two hb1 (Kp.two hb1 (Kp.two hb1 (Kp.ends hb1))))))) L.out)
  have z1 := K1.out
  have F1 := Kp.soft hb1 Z0 F0
  have Z1 : w.heap.size + 1 + 1 < w1.heap.size := Nat.lt_of_lt_of_le Z0 hb1.size
  clear hb1 z L F0 Z0
  go_wp2_with fail
  refine bodyPost_ret (v := .tuple #[.agg #[.int .i64 0, .int .i64 0, .int .i64 0, .int .i64 0, .slice none 0 0], .int .i64 1]) (by simp [results, Try.results17, go_sem, *]) rfl ⟨rfl, ?_⟩
  have B := K1.out.2.2.2.2.2.2.2.2.2.2.2.2.2
  exact (((((B.setCell (by simp; try omega) _).setCell (by simp; try omega) _).setCell (by simp; try omega) _).setCell (by simp; try omega) _).setCell (by simp; try omega) _)

theorem refAdd2 (x y : Int) (v : Pnt) (w : World) (hp : pmay (x, y) = true) : Calls Try.prog 35 #[.agg #[.int .i64 x, .int .i64 y], .agg #[.int .i64 v.1, .int .i64 v.2]] w fun e w' =>
    (∃ p q : Int, e = .returned (.tuple #[.agg #[.int .i64 p, .int .i64 q], .bool (stepB v (x, y))]) ∧ (stepB v (x, y) = true → p = x + v.1 ∧ q = y + v.2)) ∧ Below w.heap.size w w' := refAdd_any (x, y) v w hp

set_option maxHeartbeats 2000000 in
set_option maxRecDepth 100000 in
theorem refRect_no1 (a b c d : Int) (A : Option Addr) (k : Nat) (v : Pnt) (w : World) (hr : rmayB a b c d = true) (hs1 : stepB v (a, b) = false) :
    Calls Try.prog 17 #[.agg #[.int .i64 a, .int .i64 b, .int .i64 c, .int .i64 d, .slice A 0 k], .agg #[.int .i64 v.1, .int .i64 v.2]] w fun e w' => e = .returned (.tuple #[.agg #[.int .i64 0, .int .i64 0, .int .i64 0, .int .i64 0, .slice none 0 0], .int .i64 11]) ∧ Below w.heap.size w w' := by
  have C1 := Lib.hid (fun W => refRegion_no a b c d A k W)
  rw [hr] at C1
  have C2 := Lib.hid (fun W => refAdd2 a b v W (rmay_both hr).1)
  have C3 := Lib.hid (fun W => refAdd2 c d v W (rmay_both hr).2)
  rw [hs1] at C2
  obtain ⟨s2, e2⟩ : ∃ s, s = stepB v (c, d) := ⟨_, rfl⟩
  rw [← e2] at C3
  clear e2
  clear hr
  have L0 := (fun h => Kp.ad50 h w.heap.size rfl (.int .i64 a) (.int .i64 b) (.int .i64 c) (.int .i64 d) (.slice A 0 k) 26) ⟨Nat.le_refl _, Below.refl w.heap.size w⟩
  have L1 := (Kp.two (Kp.behind _ (.cells #[.int .i64 v.1, .int .i64 v.2] 28)) (Kp.two (Kp.behind _ (.cells #[.int .i64 v.1, .int .i64 v.2] 28)) (Kp.one (Kp.behind _ (.cells #[.int .i64 v.1, .int .i64 v.2] 28)) (fun h => Kp.add0 h (w.heap.size + 1) (by simp) (.int .i64 v.1) (.int .i64 v.2) 28)))) L0
  have L2 := (Kp.two (Kp.behind _ (.cells #[.int .i64 0, .int .i64 0, .int .i64 0, .int .i64 0, .slice none 0 0] 26)) (Kp.two (Kp.behind _ (.cells #[.int .i64 0, .int .i64 0, .int .i64 0, .int .i64 0, .slice none 0 0] 26)) (Kp.two (Kp.behind _ (.cells #[.int .i64 0, .int .i64 0, .int .i64 0, .int .i64 0, .slice none 0 0] 26)) (Kp.one (Kp.behind _ (.cells #[.int .i64 0, .int .i64 0, .int .i64 0, .int .i64 0, .slice none 0 0] 26)) (fun h => Kp.ad50 h (w.heap.size + 1 + 1) (by simp) (.int .i64 0) (.int .i64 0) (.int .i64 0) (.int .i64 0) (.slice none 0 0) 26))))) L1
  have L := Lib.hid L2
  clear L0 L1 L2
  have z := L.out
  have F0 : ∀ o, (((w.alloc (.cells #[.int .i64 a, .int .i64 b, .int .i64 c, .int .i64 d, .slice A 0 k] 26)).alloc (.cells #[.int .i64 v.1, .int .i64 v.2] 28)).alloc (.cells #[.int .i64 0, .int .i64 0, .int .i64 0, .int .i64 0, .slice none 0 0] 26)).frozen? ⟨w.heap.size + 1 + 1, o, none⟩ = false := Kp.newsoft _ _ (by simp) _ _
  have Z0 : w.heap.size + 1 + 1 < (((w.alloc (.cells #[.int .i64 a, .int .i64 b, .int .i64 c, .int .i64 d, .slice A 0 k] 26)).alloc (.cells #[.int .i64 v.1, .int .i64 v.2] 28)).alloc (.cells #[.int .i64 0, .int .i64 0, .int .i64 0, .int .i64 0, .slice none 0 0] 26)).heap.size := by simp
  go_enter Try.func17, Try.ntmps17
  go_wp2_with fail
  refine (C1.out _).mono ?_
  rintro e w1 ⟨rfl, hb1⟩
  have K1 := Lib.hid ((Kp.two hb1 (Kp.two hb1 (Kp.two hb1 (Kp.two hb1 (Kp.two hb1 (Kp.two hb1 (Kp.ends hb1))))))) L.out)
  have z1 := K1.out
  have F1 := Kp.soft hb1 Z0 F0
  have Z1 : w.heap.size + 1 + 1 < w1.heap.size := Nat.lt_of_lt_of_le Z0 hb1.size
  clear hb1 z L F0 Z0
  go_wp2_with fail
  refine (C2.out _).mono ?_
  rintro e w2 ⟨⟨x1, y1, rfl, h1⟩, hb2⟩
  have K2 := Lib.hid ((Kp.two hb2 (Kp.two hb2 (Kp.two hb2 (Kp.two hb2 (Kp.two hb2 (Kp.two hb2 (Kp.ends hb2))))))) K1.out)
  have F2 := Kp.soft hb2 Z1 F1
  have Z2 : w.heap.size + 1 + 1 < w2.heap.size := Nat.lt_of_lt_of_le Z1 hb2.size
  have H1 := Lib.hid h1
  clear hb2 z1 K1 F1 h1
  have M := Lib.hid ((Kp.two (Kp.behind _ (.cells #[.int .i64 x1, .int .i64 y1] 28)) (Kp.two (Kp.behind _ (.cells #[.int .i64 x1, .int .i64 y1] 28)) (Kp.two (Kp.behind _ (.cells #[.int .i64 x1, .int .i64 y1] 28)) (Kp.two (Kp.behind _ (.cells #[.int .i64 x1, .int .i64 y1] 28)) (Kp.two (Kp.behind _ (.cells #[.int .i64 x1, .int .i64 y1] 28)) (Kp.two (Kp.behind _ (.cells #[.int .i64 x1, .int .i64 y1] 28)) (fun h => Kp.add0 h w2.heap.size rfl (.int .i64 x1) (.int .i64 y1) 28))))))) K2.out)
  have m := M.out
  have FM : ∀ o, (w2.alloc (.cells #[.int .i64 x1, .int .i64 y1] 28)).frozen? ⟨w.heap.size + 1 + 1, o, none⟩ = false := Kp.soft (Kp.behind _ _) Z2 F2
  have ZM : w.heap.size + 1 + 1 < (w2.alloc (.cells #[.int .i64 x1, .int .i64 y1] 28)).heap.size := by rw [World.size_alloc]; omega
  go_wp2_with fail
  refine (C3.out _).mono ?_
  rintro e w3 ⟨⟨x2, y2, rfl, h2⟩, hb3⟩
  have K3 := Lib.hid ((Kp.two hb3 (Kp.two hb3 (Kp.two hb3 (Kp.two hb3 (Kp.two hb3 (Kp.two hb3 (Kp.two hb3 (Kp.ends hb3)))))))) M.out)
  have F3 := Kp.soft hb3 ZM FM
  have Z3 : w.heap.size + 1 + 1 < w3.heap.size := Nat.lt_of_lt_of_le ZM hb3.size
  have H2 := Lib.hid h2
  clear hb3 M m FM ZM K2 F2 h2
  have MM := Lib.hid ((Kp.two (Kp.behind _ (.cells #[.int .i64 x2, .int .i64 y2] 28)) (Kp.two (Kp.behind _ (.cells #[.int .i64 x2, .int .i64 y2] 28)) (Kp.two (Kp.behind _ (.cells #[.int .i64 x2, .int .i64 y2] 28)) (Kp.two (Kp.behind _ (.cells #[.int .i64 x2, .int .i64 y2] 28)) (Kp.two (Kp.behind _ (.cells #[.int .i64 x2, .int .i64 y2] 28)) (Kp.two (Kp.behind _ (.cells #[.int .i64 x2, .int .i64 y2] 28)) (Kp.two (Kp.behind _ (.cells #[.int .i64 x2, .int .i64 y2] 28)) (fun h => Kp.add0 h w3.heap.size rfl (.int .i64 x2) (.int .i64 y2) 28)))))))) K3.out)
  have mm := MM.out
  have z3 := K3.out
  have FF : ∀ o, (w3.alloc (.cells #[.int .i64 x2, .int .i64 y2] 28)).frozen? ⟨w.heap.size + 1 + 1, o, none⟩ = false := Kp.soft (Kp.behind _ _) Z3 F3
  go_wp2_with fail
  refine bodyPost_ret (v := .tuple #[.agg #[.int .i64 0, .int .i64 0, .int .i64 0, .int .i64 0, .slice none 0 0], .int .i64 11]) (by simp [results, Try.results17, go_sem, *]) rfl ⟨rfl, ?_⟩
  have B := K3.out.2.2.2.2.2.2.2.2.2.2.2.2.2.2.2
  exact (((((B.setCell (by simp; try omega) _).setCell (by simp; try omega) _).setCell (by simp; try omega) _).setCell (by simp; try omega) _).setCell (by simp; try omega) _).alloc (by have := B.size; simp; omega) _

set_option maxHeartbeats 2000000 in
set_option maxRecDepth 100000 in
theorem refRect_no2 (a b c d : Int) (A : Option Addr) (k : Nat) (v : Pnt) (w : World) (hr : rmayB a b c d = true) (hs1 : stepB v (a, b) = true) (hs2 : stepB v (c, d) = false) :
    Calls Try.prog 17 #[.agg #[.int .i64 a, .int .i64 b, .int .i64 c, .int .i64 d, .slice A 0 k], .agg #[.int .i64 v.1, .int .i64 v.2]] w fun e w' => e = .returned (.tuple #[.agg #[.int .i64 0, .int .i64 0, .int .i64 0, .int .i64 0, .slice none 0 0], .int .i64 11]) ∧ Below w.heap.size w w' := by
  have C1 := Lib.hid (fun W => refRegion_no a b c d A k W)
  rw [hr] at C1
  have C2 := Lib.hid (fun W => refAdd2 a b v W (rmay_both hr).1)
  have C3 := Lib.hid (fun W => refAdd2 c d v W (rmay_both hr).2)
  rw [hs1] at C2
  rw [hs2] at C3
  clear hr
  have L0 := (fun h => Kp.ad50 h w.heap.size rfl (.int .i64 a) (.int .i64 b) (.int .i64 c) (.int .i64 d) (.slice A 0 k) 26) ⟨Nat.le_refl _, Below.refl w.heap.size w⟩
  have L1 := (Kp.two (Kp.behind _ (.cells #[.int .i64 v.1, .int .i64 v.2] 28)) (Kp.two (Kp.behind _ (.cells #[.int .i64 v.1, .int .i64 v.2] 28)) (Kp.one (Kp.behind _ (.cells #[.int .i64 v.1, .int .i64 v.2] 28)) (fun h => Kp.add0 h (w.heap.size + 1) (by simp) (.int .i64 v.1) (.int .i64 v.2) 28)))) L0
  have L2 := (Kp.two (Kp.behind _ (.cells #[.int .i64 0, .int .i64 0, .int .i64 0, .int .i64 0, .slice none 0 0] 26)) (Kp.two (Kp.behind _ (.cells #[.int .i64 0, .int .i64 0, .int .i64 0, .int .i64 0, .slice none 0 0] 26)) (Kp.two (Kp.behind _ (.cells #[.int .i64 0, .int .i64 0, .int .i64 0, .int .i64 0, .slice none 0 0] 26)) (Kp.one (Kp.behind _ (.cells #[.int .i64 0, .int .i64 0, .int .i64 0, .int .i64 0, .slice none 0 0] 26)) (fun h => Kp.ad50 h (w.heap.size + 1 + 1) (by simp) (.int .i64 0) (.int .i64 0) (.int .i64 0) (.int .i64 0) (.slice none 0 0) 26))))) L1
  have L := Lib.hid L2
  clear L0 L1 L2
  have z := L.out
  have F0 : ∀ o, (((w.alloc (.cells #[.int .i64 a, .int .i64 b, .int .i64 c, .int .i64 d, .slice A 0 k] 26)).alloc (.cells #[.int .i64 v.1, .int .i64 v.2] 28)).alloc (.cells #[.int .i64 0, .int .i64 0, .int .i64 0, .int .i64 0, .slice none 0 0] 26)).frozen? ⟨w.heap.size + 1 + 1, o, none⟩ = false := Kp.newsoft _ _ (by simp) _ _
  have Z0 : w.heap.size + 1 + 1 < (((w.alloc (.cells #[.int .i64 a, .int .i64 b, .int .i64 c, .int .i64 d, .slice A 0 k] 26)).alloc (.cells #[.int .i64 v.1, .int .i64 v.2] 28)).alloc (.cells #[.int .i64 0, .int .i64 0, .int .i64 0, .int .i64 0, .slice none 0 0] 26)).heap.size := by simp
  go_enter Try.func17, Try.ntmps17
  go_wp2_with fail
  refine (C1.out _).mono ?_
  rintro e w1 ⟨rfl, hb1⟩
  have K1 := Lib.hid ((Kp.two hb1 (Kp.two hb1 (Kp.two hb1 (Kp.two hb1 (Kp.two hb1 (Kp.two hb1 (Kp.ends hb1))))))) L.out)
  have z1 := K1.out
  have F1 := Kp.soft hb1 Z0 F0
  have Z1 : w.heap.size + 1 + 1 < w1.heap.size := Nat.lt_of_lt_of_le Z0 hb1.size
  clear hb1 z L F0 Z0
  go_wp2_with fail
  refine (C2.out _).mono ?_
  rintro e w2 ⟨⟨x1, y1, rfl, h1⟩, hb2⟩
  have K2 := Lib.hid ((Kp.two hb2 (Kp.two hb2 (Kp.two hb2 (Kp.two hb2 (Kp.two hb2 (Kp.two hb2 (Kp.ends hb2))))))) K1.out)
  have F2 := Kp.soft hb2 Z1 F1
  have Z2 : w.heap.size + 1 + 1 < w2.heap.size := Nat.lt_of_lt_of_le Z1 hb2.size
  have H1 := Lib.hid h1
  clear hb2 z1 K1 F1 h1
  have M := Lib.hid ((Kp.two (Kp.behind _ (.cells #[.int .i64 x1, .int .i64 y1] 28)) (Kp.two (Kp.behind _ (.cells #[.int .i64 x1, .int .i64 y1] 28)) (Kp.two (Kp.behind _ (.cells #[.int .i64 x1, .int .i64 y1] 28)) (Kp.two (Kp.behind _ (.cells #[.int .i64 x1, .int .i64 y1] 28)) (Kp.two (Kp.behind _ (.cells #[.int .i64 x1, .int .i64 y1] 28)) (Kp.two (Kp.behind _ (.cells #[.int .i64 x1, .int .i64 y1] 28)) (fun h => Kp.add0 h w2.heap.size rfl (.int .i64 x1) (.int .i64 y1) 28))))))) K2.out)
  have m := M.out
  have FM : ∀ o, (w2.alloc (.cells #[.int .i64 x1, .int .i64 y1] 28)).frozen? ⟨w.heap.size + 1 + 1, o, none⟩ = false := Kp.soft (Kp.behind _ _) Z2 F2
  have ZM : w.heap.size + 1 + 1 < (w2.alloc (.cells #[.int .i64 x1, .int .i64 y1] 28)).heap.size := by rw [World.size_alloc]; omega
  go_wp2_with fail
  refine (C3.out _).mono ?_
  rintro e w3 ⟨⟨x2, y2, rfl, h2⟩, hb3⟩
  have K3 := Lib.hid ((Kp.two hb3 (Kp.two hb3 (Kp.two hb3 (Kp.two hb3 (Kp.two hb3 (Kp.two hb3 (Kp.two hb3 (Kp.ends hb3)))))))) M.out)
  have F3 := Kp.soft hb3 ZM FM
  have Z3 : w.heap.size + 1 + 1 < w3.heap.size := Nat.lt_of_lt_of_le ZM hb3.size
  have H2 := Lib.hid h2
  clear hb3 M m FM ZM K2 F2 h2
  have MM := Lib.hid ((Kp.two (Kp.behind _ (.cells #[.int .i64 x2, .int .i64 y2] 28)) (Kp.two (Kp.behind _ (.cells #[.int .i64 x2, .int .i64 y2] 28)) (Kp.two (Kp.behind _ (.cells #[.int .i64 x2, .int .i64 y2] 28)) (Kp.two (Kp.behind _ (.cells #[.int .i64 x2, .int .i64 y2] 28)) (Kp.two (Kp.behind _ (.cells #[.int .i64 x2, .int .i64 y2] 28)) (Kp.two (Kp.behind _ (.cells #[.int .i64 x2, .int .i64 y2] 28)) (Kp.two (Kp.behind _ (.cells #[.int .i64 x2, .int .i64 y2] 28)) (fun h => Kp.add0 h w3.heap.size rfl (.int .i64 x2) (.int .i64 y2) 28)))))))) K3.out)
  have mm := MM.out
  have z3 := K3.out
  have FF : ∀ o, (w3.alloc (.cells #[.int .i64 x2, .int .i64 y2] 28)).frozen? ⟨w.heap.size + 1 + 1, o, none⟩ = false := Kp.soft (Kp.behind _ _) Z3 F3
  go_wp2_with fail
  refine bodyPost_ret (v := .tuple #[.agg #[.int .i64 0, .int .i64 0, .int .i64 0, .int .i64 0, .slice none 0 0], .int .i64 11]) (by simp [results, Try.results17, go_sem, *]) rfl ⟨rfl, ?_⟩
  have B := K3.out.2.2.2.2.2.2.2.2.2.2.2.2.2.2.2
  exact (((((B.setCell (by simp; try omega) _).setCell (by simp; try omega) _).setCell (by simp; try omega) _).setCell (by simp; try omega) _).setCell (by simp; try omega) _).alloc (by have := B.size; simp; omega) _

set_option maxHeartbeats 2000000 in
set_option maxRecDepth 100000 in
theorem refRect_yes (a b c d : Int) (A : Option Addr) (k : Nat) (v : Pnt) (w : World) (hr : rmayB a b c d = true) (hs1 : stepB v (a, b) = true) (hs2 : stepB v (c, d) = true) :
    Calls Try.prog 17 #[.agg #[.int .i64 a, .int .i64 b, .int .i64 c, .int .i64 d, .slice A 0 k], .agg #[.int .i64 v.1, .int .i64 v.2]] w fun e w' => e = .returned (.tuple #[.agg #[.int .i64 (a + v.1), .int .i64 (b + v.2), .int .i64 (c + v.1), .int .i64 (d + v.2), .slice none 0 0], .int .i64 0]) ∧ Below w.heap.size w w' := by
  have C1 := Lib.hid (fun W => refRegion_no a b c d A k W)
  rw [hr] at C1
  have C2 := Lib.hid (fun W => refAdd2 a b v W (rmay_both hr).1)
  have C3 := Lib.hid (fun W => refAdd2 c d v W (rmay_both hr).2)
  rw [hs1] at C2
  rw [hs2] at C3
  clear hr
  have L0 := (fun h => Kp.ad50 h w.heap.size rfl (.int .i64 a) (.int .i64 b) (.int .i64 c) (.int .i64 d) (.slice A 0 k) 26) ⟨Nat.le_refl _, Below.refl w.heap.size w⟩
  have L1 := (Kp.two (Kp.behind _ (.cells #[.int .i64 v.1, .int .i64 v.2] 28)) (Kp.two (Kp.behind _ (.cells #[.int .i64 v.1, .int .i64 v.2] 28)) (Kp.one (Kp.behind _ (.cells #[.int .i64 v.1, .int .i64 v.2] 28)) (fun h => Kp.add0 h (w.heap.size + 1) (by simp) (.int .i64 v.1) (.int .i64 v.2) 28)))) L0
  have L2 := (Kp.two (Kp.behind _ (.cells #[.int .i64 0, .int .i64 0, .int .i64 0, .int .i64 0, .slice none 0 0] 26)) (Kp.two (Kp.behind _ (.cells #[.int .i64 0, .int .i64 0, .int .i64 0, .int .i64 0, .slice none 0 0] 26)) (Kp.two (Kp.behind _ (.cells #[.int .i64 0, .int .i64 0, .int .i64 0, .int .i64 0, .slice none 0 0] 26)) (Kp.one (Kp.behind _ (.cells #[.int .i64 0, .int .i64 0, .int .i64 0, .int .i64 0, .slice none 0 0] 26)) (fun h => Kp.ad50 h (w.heap.size + 1 + 1) (by simp) (.int .i64 0) (.int .i64 0) (.int .i64 0) (.int .i64 0) (.slice none 0 0) 26))))) L1
  have L := Lib.hid L2
  clear L0 L1 L2
  have z := L.out
  have F0 : ∀ o, (((w.alloc (.cells #[.int .i64 a, .int .i64 b, .int .i64 c, .int .i64 d, .slice A 0 k] 26)).alloc (.cells #[.int .i64 v.1, .int .i64 v.2] 28)).alloc (.cells #[.int .i64 0, .int .i64 0, .int .i64 0, .int .i64 0, .slice none 0 0] 26)).frozen? ⟨w.heap.size + 1 + 1, o, none⟩ = false := Kp.newsoft _ _ (by simp) _ _
  have Z0 : w.heap.size + 1 + 1 < (((w.alloc (.cells #[.int .i64 a, .int .i64 b, .int .i64 c, .int .i64 d, .slice A 0 k] 26)).alloc (.cells #[.int .i64 v.1, .int .i64 v.2] 28)).alloc (.cells #[.int .i64 0, .int .i64 0, .int .i64 0, .int .i64 0, .slice none 0 0] 26)).heap.size := by simp
  go_enter Try.func17, Try.ntmps17
  go_wp2_with fail
  refine (C1.out _).mono ?_
  rintro e w1 ⟨rfl, hb1⟩
  have K1 := Lib.hid ((Kp.two hb1 (Kp.two hb1 (Kp.two hb1 (Kp.two hb1 (Kp.two hb1 (Kp.two hb1 (Kp.ends hb1))))))) L.out)
  have z1 := K1.out
  have F1 := Kp.soft hb1 Z0 F0
  have Z1 : w.heap.size + 1 + 1 < w1.heap.size := Nat.lt_of_lt_of_le Z0 hb1.size
  clear hb1 z L F0 Z0
  go_wp2_with fail
  refine (C2.out _).mono ?_
  rintro e w2 ⟨⟨x1, y1, rfl, h1⟩, hb2⟩
  have K2 := Lib.hid ((Kp.two hb2 (Kp.two hb2 (Kp.two hb2 (Kp.two hb2 (Kp.two hb2 (Kp.two hb2 (Kp.ends hb2))))))) K1.out)
  have F2 := Kp.soft hb2 Z1 F1
  have Z2 : w.heap.size + 1 + 1 < w2.heap.size := Nat.lt_of_lt_of_le Z1 hb2.size
  have H1 := Lib.hid h1
  clear hb2 z1 K1 F1 h1
  have M := Lib.hid ((Kp.two (Kp.behind _ (.cells #[.int .i64 x1, .int .i64 y1] 28)) (Kp.two (Kp.behind _ (.cells #[.int .i64 x1, .int .i64 y1] 28)) (Kp.two (Kp.behind _ (.cells #[.int .i64 x1, .int .i64 y1] 28)) (Kp.two (Kp.behind _ (.cells #[.int .i64 x1, .int .i64 y1] 28)) (Kp.two (Kp.behind _ (.cells #[.int .i64 x1, .int .i64 y1] 28)) (Kp.two (Kp.behind _ (.cells #[.int .i64 x1, .int .i64 y1] 28)) (fun h => Kp.add0 h w2.heap.size rfl (.int .i64 x1) (.int .i64 y1) 28))))))) K2.out)
  have m := M.out
  have FM : ∀ o, (w2.alloc (.cells #[.int .i64 x1, .int .i64 y1] 28)).frozen? ⟨w.heap.size + 1 + 1, o, none⟩ = false := Kp.soft (Kp.behind _ _) Z2 F2
  have ZM : w.heap.size + 1 + 1 < (w2.alloc (.cells #[.int .i64 x1, .int .i64 y1] 28)).heap.size := by rw [World.size_alloc]; omega
  go_wp2_with fail
  refine (C3.out _).mono ?_
  rintro e w3 ⟨⟨x2, y2, rfl, h2⟩, hb3⟩
  have K3 := Lib.hid ((Kp.two hb3 (Kp.two hb3 (Kp.two hb3 (Kp.two hb3 (Kp.two hb3 (Kp.two hb3 (Kp.two hb3 (Kp.ends hb3)))))))) M.out)
  have F3 := Kp.soft hb3 ZM FM
  have Z3 : w.heap.size + 1 + 1 < w3.heap.size := Nat.lt_of_lt_of_le ZM hb3.size
  have H2 := Lib.hid h2
  clear hb3 M m FM ZM K2 F2 h2
  have MM := Lib.hid ((Kp.two (Kp.behind _ (.cells #[.int .i64 x2, .int .i64 y2] 28)) (Kp.two (Kp.behind _ (.cells #[.int .i64 x2, .int .i64 y2] 28)) (Kp.two (Kp.behind _ (.cells #[.int .i64 x2, .int .i64 y2] 28)) (Kp.two (Kp.behind _ (.cells #[.int .i64 x2, .int .i64 y2] 28)) (Kp.two (Kp.behind _ (.cells #[.int .i64 x2, .int .i64 y2] 28)) (Kp.two (Kp.behind _ (.cells #[.int .i64 x2, .int .i64 y2] 28)) (Kp.two (Kp.behind _ (.cells #[.int .i64 x2, .int .i64 y2] 28)) (fun h => Kp.add0 h w3.heap.size rfl (.int .i64 x2) (.int .i64 y2) 28)))))))) K3.out)
  have mm := MM.out
  have z3 := K3.out
  have FF : ∀ o, (w3.alloc (.cells #[.int .i64 x2, .int .i64 y2] 28)).frozen? ⟨w.heap.size + 1 + 1, o, none⟩ = false := Kp.soft (Kp.behind _ _) Z3 F3
  go_wp2_with fail
  refine bodyPost_ret (v := .tuple #[.agg #[.int .i64 x1, .int .i64 y1, .int .i64 x2, .int .i64 y2, .slice none 0 0], .int .i64 0]) (by simp [results, Try.results17, go_sem, *]) rfl ⟨by rw [(H1.out trivial).1, (H1.out trivial).2, (H2.out trivial).1, (H2.out trivial).2], ?_⟩
  have B := K3.out.2.2.2.2.2.2.2.2.2.2.2.2.2.2.2
  exact (((((B.setCell (by simp; try omega) _).setCell (by simp; try omega) _).setCell (by simp; try omega) _).setCell (by simp; try omega) _).setCell (by simp; try omega) _).alloc (by have := B.size; simp; omega) _
end Go.Proofs.Ytiggjaodfmelpaa.Rg
