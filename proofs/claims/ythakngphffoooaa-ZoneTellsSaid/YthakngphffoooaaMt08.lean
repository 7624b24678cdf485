/-
  Contracts of the small functions of layer 2 (rect) and of their document's answers. Memory that was there is left as it was.
-/
import Derived.Test.YthakngphffoooaaMt02
import Derived.Test.YthakngphffoooaaMt04
import Derived.Test.YthakngphffoooaaMt06
import Derived.Test.YthakngphffoooaaMt07
import Derived.StillTailTactics
import Derived.Test.YthakngphffoooaaMt03
import Derived.Handy
import Derived.Outline
import Derived.LaidEql
import Derived.KernelRfl
import Derived.OwnWalk
/-
  Contracts of layer 16 (region): hasPoly, May, the statements' Few, the document's Region. Memory that was there is left as it was.
-/
namespace Go.Proofs.Ythakngphffoooaa.Rg
open Go.RowKit Go.Proofs.Ythakngphffoooaa.Pt Go.Proofs.Ythakngphffoooaa.Rc Go.Proofs.Ythakngphffoooaa.Pts Go.Proofs.Ythakngphffoooaa.Pl
set_option linter.unusedVariables false

theorem eql_rect (a b c d a2 b2 c2 d2 : Int) (w : World) : (binOp .eql 23 (.agg #[.int .i64 a, .int .i64 b, .int .i64 c, .int .i64 d]) (.agg #[.int .i64 a2, .int .i64 b2, .int .i64 c2, .int .i64 d2])).run Try.prog w = .ok (.bool (eq4 a b c d a2 b2 c2 d2)) w := by
  simp [go_sem, eq4]
  by_cases h1 : a = a2 <;> by_cases h2 : b = b2 <;> by_cases h3 : c = c2 <;> by_cases h4 : d = d2 <;> simp [h1, h2, h3, h4]
theorem few_any (a b c d : Int) (A : Option Addr) (n k : Nat) (w : World) (hm : n ≤ maxLen) : Calls Try.prog 6 #[.agg #[.int .i64 a, .int .i64 b, .int .i64 c, .int .i64 d, .slice A n k]] w fun e w' => e = .returned (.bool (decide (n ≤ 70))) ∧ Below w.heap.size w w' := by
  unfold maxLen at hm
  have L := Lib.hid ((fun h => Kp.ad50 h w.heap.size rfl (.int .i64 a) (.int .i64 b) (.int .i64 c) (.int .i64 d) (.slice A n k) 26) ⟨Nat.le_refl _, Below.refl w.heap.size w⟩)
  by_cases h : n ≤ 70
  · have h' : (n : Int) ≤ 70 := by omega
    rw [decide_eq_true h]
    clear h
    go_enter Try.func6, Try.ntmps6
    go_wp2_with fail
    go_ret
    exact ⟨rfl, L.out.2.2.2.2.2.2⟩
  · have h' := decide_eq_false (show ¬ (n : Int) ≤ 70 by omega)
    rw [decide_eq_false h]
    clear h
    go_enter Try.func6, Try.ntmps6
    go_wp2_with fail
    go_ret
    exact ⟨rfl, L.out.2.2.2.2.2.2⟩
theorem has_no (a b c d : Int) (A : Option Addr) (k : Nat) (w : World) : Calls Try.prog 28 #[.agg #[.int .i64 a, .int .i64 b, .int .i64 c, .int .i64 d, .slice A 0 k]] w fun e w' => e = .returned (.bool false) ∧ Below w.heap.size w w' := by
  have L := Lib.hid ((fun h => Kp.ad50 h w.heap.size rfl (.int .i64 a) (.int .i64 b) (.int .i64 c) (.int .i64 d) (.slice A 0 k) 26) ⟨Nat.le_refl _, Below.refl w.heap.size w⟩)
  go_enter Try.func28, Try.ntmps28
  go_wp2_with fail
  go_ret
  exact ⟨by simp, L.out.2.2.2.2.2.2⟩
theorem has_yes (a b c d : Int) (A : Option Addr) (n k : Nat) (w : World) (h : 0 < n) (hm : n ≤ 70) : Calls Try.prog 28 #[.agg #[.int .i64 a, .int .i64 b, .int .i64 c, .int .i64 d, .slice A n k]] w fun e w' => e = .returned (.bool true) ∧ Below w.heap.size w w' := by
  have L := Lib.hid ((fun h => Kp.ad50 h w.heap.size rfl (.int .i64 a) (.int .i64 b) (.int .i64 c) (.int .i64 d) (.slice A n k) 26) ⟨Nat.le_refl _, Below.refl w.heap.size w⟩)
  have h' : (0 : Int) < (n : Int) := by omega
  go_enter Try.func28, Try.ntmps28
  go_wp2_with fail
  go_ret
  exact ⟨rfl, L.out.2.2.2.2.2.2⟩

theorem may_no (a b c d : Int) (A : Option Addr) (k : Nat) (w : World) : Calls Try.prog 27 #[.agg #[.int .i64 a, .int .i64 b, .int .i64 c, .int .i64 d, .slice A 0 k]] w fun e w' => e = .returned (.bool (rmayB a b c d)) ∧ Below w.heap.size w w' := by
  have L := Lib.hid ((fun h => Kp.ad50 h w.heap.size rfl (.int .i64 a) (.int .i64 b) (.int .i64 c) (.int .i64 d) (.slice A 0 k) 26) ⟨Nat.le_refl _, Below.refl w.heap.size w⟩)
  have z := L.out
  go_enter Try.func27, Try.ntmps27
  go_wp2_with fail
  refine (has_no a b c d A k _).mono ?_
  rintro e w1 ⟨rfl, hb1⟩
  have K1 := Lib.hid ((Kp.two hb1 (Kp.two hb1 (Kp.one hb1 (Kp.ends hb1)))) L.out)
  have z1 := K1.out
  clear hb1 z L
  go_wp2_with fail
  refine (rmay_any a b c d _).mono ?_
  rintro e w2 ⟨rfl, hb2⟩
  have K2 := Lib.hid ((Kp.two hb2 (Kp.two hb2 (Kp.one hb2 (Kp.ends hb2)))) K1.out)
  have z2 := K2.out
  clear hb2 z1 K1
  go_wp2_with fail
  go_ret
  exact ⟨rfl, K2.out.2.2.2.2.2.2⟩
set_option maxHeartbeats 1000000 in
theorem may_yes (a b c d : Int) (l : List Pnt) (A : Option Addr) (k : Nat) (w : World) (hA : PtsAt w w.heap.size A l) (h0 : 0 < l.length) (hn : l.length ≤ 70) :
    Calls Try.prog 27 #[.agg #[.int .i64 a, .int .i64 b, .int .i64 c, .int .i64 d, .slice A l.length k]] w fun e w' => e = .returned (.bool (rz a b c d && simpleB l)) ∧ Below w.heap.size w w' := by
  have C := Lib.hid (fun W (h : Below w.heap.size w W) => simple_any l A k W ((hA.later h).wide h.size) hn)
  obtain ⟨n, e⟩ : ∃ n, n = l.length := ⟨_, rfl⟩
  rw [← e] at C h0 hn ⊢
  clear e hA
  have q := eql_rect
  have L := Lib.hid ((fun h => Kp.ad50 h w.heap.size rfl (.int .i64 a) (.int .i64 b) (.int .i64 c) (.int .i64 d) (.slice A n k) 26) ⟨Nat.le_refl _, Below.refl w.heap.size w⟩)
  have z := L.out
  have h' : (0 : Int) < (n : Int) := by omega
  have h2 : ¬ (n : Int) = 0 := by omega
  have e0 := eq4_zero a b c d
  cases hz : rz a b c d
  · rw [hz] at e0
    go_enter Try.func27, Try.ntmps27
    go_wp2_with fail
    refine (has_yes a b c d A n k _ h0 hn).mono ?_
    rintro e w1 ⟨rfl, hb1⟩
    have K1 := Lib.hid ((Kp.two hb1 (Kp.two hb1 (Kp.one hb1 (Kp.ends hb1)))) L.out)
    have z1 := K1.out
    clear hb1 z L
    go_wp2_with fail
    go_ret
    exact ⟨rfl, K1.out.2.2.2.2.2.2⟩
  · rw [hz] at e0
    go_enter Try.func27, Try.ntmps27
    go_wp2_with fail
    refine (has_yes a b c d A n k _ h0 hn).mono ?_
    rintro e w1 ⟨rfl, hb1⟩
    have K1 := Lib.hid ((Kp.two hb1 (Kp.two hb1 (Kp.one hb1 (Kp.ends hb1)))) L.out)
    have z1 := K1.out
    clear hb1 z L
    go_wp2_with fail
    refine (C.out _ K1.out.2.2.2.2.2.2).mono ?_
    rintro e w2 ⟨rfl, hb2⟩
    have K2 := Lib.hid ((Kp.two hb2 (Kp.two hb2 (Kp.one hb2 (Kp.ends hb2)))) K1.out)
    have z2 := K2.out
    clear hb2 z1 K1
    go_wp2_with fail
    go_ret
    exact ⟨by simp, K2.out.2.2.2.2.2.2⟩
theorem may_any (a b c d : Int) (l : List Pnt) (A : Option Addr) (k : Nat) (w : World) (hA : PtsAt w w.heap.size A l) (hn : l.length ≤ 70) :
    Calls Try.prog 27 #[.agg #[.int .i64 a, .int .i64 b, .int .i64 c, .int .i64 d, .slice A l.length k]] w fun e w' => e = .returned (.bool (rgB a b c d l)) ∧ Below w.heap.size w w' := by
  rcases Nat.eq_zero_or_pos l.length with h | h
  · rw [rgB_no h, h]
    exact may_no a b c d A k w
  · rw [rgB_yes h]
    exact may_yes a b c d l A k w hA h hn

theorem refRegion_no (a b c d : Int) (A : Option Addr) (k : Nat) (w : World) : Calls Try.prog 12 #[.agg #[.int .i64 a, .int .i64 b, .int .i64 c, .int .i64 d, .slice A 0 k]] w fun e w' => e = .returned (.bool (rmayB a b c d)) ∧ Below w.heap.size w w' := by
  have L := Lib.hid ((fun h => Kp.ad50 h w.heap.size rfl (.int .i64 a) (.int .i64 b) (.int .i64 c) (.int .i64 d) (.slice A 0 k) 26) ⟨Nat.le_refl _, Below.refl w.heap.size w⟩)
  have z := L.out
  go_enter Try.func12, Try.ntmps12
  go_wp2_with fail
  refine (refRect_any a b c d _).mono ?_
  rintro e w1 ⟨rfl, hb1⟩
  have K1 := Lib.hid ((Kp.two hb1 (Kp.two hb1 (Kp.one hb1 (Kp.ends hb1)))) L.out)
  have z1 := K1.out
  clear hb1 z L
  go_wp2_with fail
  go_ret
  exact ⟨rfl, K1.out.2.2.2.2.2.2⟩
set_option maxHeartbeats 1000000 in
theorem refRegion_yes (a b c d : Int) (l : List Pnt) (A : Option Addr) (k : Nat) (w : World) (hA : PtsAt w w.heap.size A l) (h0 : 0 < l.length) (hn : l.length ≤ 70) :
    Calls Try.prog 12 #[.agg #[.int .i64 a, .int .i64 b, .int .i64 c, .int .i64 d, .slice A l.length k]] w fun e w' => e = .returned (.bool (rz a b c d && simpleB l)) ∧ Below w.heap.size w w' := by
  have C := Lib.hid (fun W (h : Below w.heap.size w W) => refSimple_any l A k W ((hA.later h).wide h.size) hn)
  obtain ⟨n, e⟩ : ∃ n, n = l.length := ⟨_, rfl⟩
  rw [← e] at C h0 hn ⊢
  clear e hA
  have q := eql_rect
  have L := Lib.hid ((fun h => Kp.ad50 h w.heap.size rfl (.int .i64 a) (.int .i64 b) (.int .i64 c) (.int .i64 d) (.slice A n k) 26) ⟨Nat.le_refl _, Below.refl w.heap.size w⟩)
  have z := L.out
  have h' : (0 : Int) < (n : Int) := by omega
  have h2 : ¬ (n : Int) = 0 := by omega
  have e0 := eq4_zero a b c d
  cases hs : simpleB l
  · rw [hs] at C
    go_enter Try.func12, Try.ntmps12
    go_wp2_with fail
    refine (C.out _ L.out.2.2.2.2.2.2).mono ?_
    rintro e w1 ⟨rfl, hb1⟩
    have K1 := Lib.hid ((Kp.two hb1 (Kp.two hb1 (Kp.one hb1 (Kp.ends hb1)))) L.out)
    have z1 := K1.out
    clear hb1 z L
    go_wp2_with fail
    go_ret
    exact ⟨by simp, K1.out.2.2.2.2.2.2⟩
  · rw [hs] at C
    go_enter Try.func12, Try.ntmps12
    go_wp2_with fail
    refine (C.out _ L.out.2.2.2.2.2.2).mono ?_
    rintro e w1 ⟨rfl, hb1⟩
    have K1 := Lib.hid ((Kp.two hb1 (Kp.two hb1 (Kp.one hb1 (Kp.ends hb1)))) L.out)
    have z1 := K1.out
    clear hb1 z L
    go_wp2_with fail
    go_ret
    exact ⟨by simp [*], K1.out.2.2.2.2.2.2⟩
theorem refRegion_any (a b c d : Int) (l : List Pnt) (A : Option Addr) (k : Nat) (w : World) (hA : PtsAt w w.heap.size A l) (hn : l.length ≤ 70) :
    Calls Try.prog 12 #[.agg #[.int .i64 a, .int .i64 b, .int .i64 c, .int .i64 d, .slice A l.length k]] w fun e w' => e = .returned (.bool (rgB a b c d l)) ∧ Below w.heap.size w w' := by
  rcases Nat.eq_zero_or_pos l.length with h | h
  · rw [rgB_no h, h]
    exact refRegion_no a b c d A k w
  · rw [rgB_yes h]
    exact refRegion_yes a b c d l A k w hA h hn
end Go.Proofs.Ythakngphffoooaa.Rg
/-
  The contract of the document's answer Of of layer 2 (rect), for any points (at most 300): the least rectangle that has them all, or a zero one. Memory that was there is left as it was.
-/
namespace Go.Proofs.Ythakngphffoooaa.Rc
open Go.RowKit Go.Proofs.Ythakngphffoooaa.Pt Go.Proofs.Ythakngphffoooaa.Pts

theorem refOf_nil (A : Option Addr) (c : Nat) (w : World) : Calls Try.prog 38 #[.slice A 0 c] w fun e w' => e = .returned (.tuple #[.agg #[.int .i64 0, .int .i64 0, .int .i64 0, .int .i64 0], .bool false]) ∧ Below w.heap.size w w' := by
  go_enter Try.func38, Try.ntmps38
  go_wp2
  refine bodyPost_ret (v := .tuple #[.agg #[.int .i64 0, .int .i64 0, .int .i64 0, .int .i64 0], .bool false]) (by simp [results, Try.results38, go_sem]) rfl ⟨rfl, ?_⟩
  exact (Below.refl _ _).alloc (Nat.le_refl _) _

theorem first_may {p : Int × Int} {t : List (Int × Int)} {k : Nat} (hk : k < (p :: t).length) (h : ((p :: t).take k).all pmay = true) (h1 : pmay (p :: t)[k] = true) : pmay p = true := by
  have := all_succ hk h h1
  rw [List.take_succ_cons, List.all_cons, Bool.and_eq_true] at this
  exact this.1

set_option maxHeartbeats 2000000 in
theorem refOf_some (p : Int × Int) (t : List (Int × Int)) (b off c : Nat) (w : World) (hBb : b < w.heap.size) (hn : (p :: t).length ≤ 300)
    (hc : ∀ (k : Nat) (h : k < (p :: t).length), w.cell? ⟨b, off + k * 2, none⟩ = some (.int .i64 (p :: t)[k].1) ∧ w.cell? ⟨b, off + k * 2 + 1, none⟩ = some (.int .i64 (p :: t)[k].2)) :
    Calls Try.prog 38 #[.slice (some ⟨b, off, none⟩) (p :: t).length c] w fun e w' => e = .returned (.tuple #[.agg #[.int .i64 (ofR (p :: t)).x1, .int .i64 (ofR (p :: t)).y1, .int .i64 (ofR (p :: t)).x2, .int .i64 (ofR (p :: t)).y2], .bool (ofB (p :: t))]) ∧ Below w.heap.size w w' := by
  obtain ⟨n, e⟩ : ∃ n, n = (p :: t).length := ⟨_, rfl⟩
  have h0 : 0 < n := by simp [e]
  have q1 : w.cell? ⟨b, off, none⟩ = some (.int .i64 p.1) := (hc 0 (by simp)).1
  have q2 : w.cell? ⟨b, off + 1, none⟩ = some (.int .i64 p.2) := (hc 0 (by simp)).2
  have HC := Lib.hid hc
  rw [← e] at hn ⊢
  have E := Lib.hid e
  clear e hc
  go_enter Try.func38, Try.ntmps38
  go_wp2_with fail
  go_region_held3 (fun W => W.cell? ⟨b, off, none⟩ = some (.int .i64 p.1) ∧ W.cell? ⟨b, off + 1, none⟩ = some (.int .i64 p.2))
    (go_keep)
    (fail)
  go_wp2_with fail
  obtain ⟨g, hg⟩ : ∃ g, g = w.heap.size + 1 := ⟨_, rfl⟩
  rw [← hg]
  have hz1 : w.heap.size < g := by omega
  have G := Lib.hid hg
  clear hg
  go_loopw [5] (fun i wr => OfRel w g p (p :: t) i wr) (fun i _ => n - (intOf i).toNat)
  case atStart =>
    have hg := G.out; subst hg
    refine ⟨0, Nat.zero_le _, rfl, rfl, ?_, ?_, ?_⟩
    · exact Rc4.drew ((Rc4.new w 0 0 0 0 23).alloc _)
    · rw [accR_zero]
      have h := Rc4.new (w.alloc (.cells #[.int .i64 0, .int .i64 0, .int .i64 0, .int .i64 0] 23)) p.1 p.2 p.1 p.2 23
      rw [World.size_alloc] at h
      exact Rc4.drew h
    · exact (((Below.refl w.heap.size w).alloc (Nat.le_refl _) _).alloc (by simp) _).drew
  case round =>
    obtain ⟨k, hk, rfl, hall, hZ, hR, hB⟩ := hrel
    by_cases hlt : k < n
    · have hkl : k < (p :: t).length := by rw [← E.out]; exact hlt
      obtain ⟨X, hX⟩ : ∃ X, X = (p :: t)[k].1 := ⟨_, rfl⟩
      obtain ⟨Y, hY⟩ : ∃ Y, Y = (p :: t)[k].2 := ⟨_, rfl⟩
      have c1 : wr.cell? ⟨b, off + k * 2, none⟩ = some (.int .i64 X) := by rw [hX]; exact (hB.cell (p := ⟨b, off + k * 2, none⟩) hBb).trans (HC.out k hkl).1
      have c2 : wr.cell? ⟨b, off + k * 2 + 1, none⟩ = some (.int .i64 Y) := by rw [hY]; exact (hB.cell (p := ⟨b, off + k * 2 + 1, none⟩) hBb).trans (HC.out k hkl).2
      have HX := Lib.hid hX
      have HY := Lib.hid hY
      have HA := Lib.hid hall
      clear hX hY hall
      have hk0 : (0 : Int) ≤ (k : Int) := by omega
      have hk1 : (k : Int) < (n : Int) := by omega
      go_wp2_with fail
      refine (refMay_any _ _ _).mono ?_
      rintro e w2 ⟨rfl, hb2⟩
      have Z2 := hZ.later hb2
      have R2 := hR.later hb2
      have B2 : Below w.heap.size w w2 := hB.trans (hb2.mono hB.size)
      have p1 : w2.cell? ⟨b, off + k * 2, none⟩ = some (.int .i64 X) := cell_later hb2 c1
      have p2 : w2.cell? ⟨b, off + k * 2 + 1, none⟩ = some (.int .i64 Y) := cell_later hb2 c2
      clear hb2 hZ hR c1 c2
      cases hm : mayB X Y
      · have Z := Z2
        obtain ⟨z0, z1, z2, z3, f0, f1, f2, f3⟩ := Z
        go_wp2_with fail
        have hno : (p :: t).all pmay = false := all_no hkl (by unfold pmay; rw [← HX.out, ← HY.out]; exact hm)
        rw [ofR_no hno, ofB_no hno]
        refine bodyPost_ret (v := .tuple #[.agg #[.int .i64 0, .int .i64 0, .int .i64 0, .int .i64 0], .bool false]) ?_ rfl ⟨rfl, ?_⟩
        · simp [results, Try.results38, go_sem, *]
        · exact (((B2.setCell (by simp) _).setCell (by simp) _).setCell (by simp) _).setCell (by simp) _
      · obtain ⟨r, hr⟩ : ∃ r, r = accR p (p :: t) k := ⟨_, rfl⟩
        rw [← hr] at R2
        have HR := Lib.hid hr
        clear hr
        have R := R2
        obtain ⟨z0, z1, z2, z3, f0, f1, f2, f3⟩ := R
        go_wp2_with fail
        have hok : okR r := by rw [HR.out]; exact okR_acc (first_may hkl HA.out (by unfold pmay; rw [← HX.out, ← HY.out]; exact hm)) HA.out
        obtain ⟨_, _, k1, k2⟩ := hok
        obtain ⟨k3, k4⟩ := mayB_iff.1 hm
        have C := Lib.hid (fun W => refJoin_any r.x1 r.y1 r.x2 r.y2 X Y X Y W k1 k2 k3 k4)
        clear k1 k2 k3 k4
        go_still_tail 22, (by kernel_rfl)
        go_wp2_with fail
        refine (C.out _).mono ?_
        rintro e w4 ⟨rfl, hb4⟩
        have R4 := (Rc4.drew R2).later hb4
        have Z4 := (Rc4.drew Z2).later hb4
        have B4 := B2.drew.trans (hb4.mono B2.size)
        clear hb4
        have R4' := R4
        obtain ⟨x0, x1, x2, x3, h0, h1, h2, h3⟩ := R4'
        go_wp2_with fail
        go_roundw
        case rel => exact ⟨k + 1, by omega, by go_num, all_succ hkl HA.out (by unfold pmay; rw [← HX.out, ← HY.out]; exact hm), (((Z4.far _ (by simp; omega)).far _ (by simp; omega)).far _ (by simp; omega)).far _ (by simp; omega), rel_step hkl HR.out HX.out HY.out (R4.set _ _ _ _), (((B4.setCell (by simp; omega) _).setCell (by simp; omega) _).setCell (by simp; omega) _).setCell (by simp; omega) _⟩
        case measure => simp [intOf]; omega
    · have hkn : k = n := by have := E.out; omega
      obtain ⟨hyes, hacc⟩ := rel_end E.out hkn hall
      rw [hacc] at hR
      obtain ⟨r, hr⟩ : ∃ r, r = ofR (p :: t) := ⟨_, rfl⟩
      rw [← hr] at hR
      have HR := Lib.hid hr
      have HY := Lib.hid hyes
      clear hall hkn hr hacc hyes
      have R := hR
      have Z := hZ
      obtain ⟨y0, y1, y2, y3, g0, g1, g2, g3⟩ := R
      obtain ⟨z0, z1, z2, z3, f0, f1, f2, f3⟩ := Z
      go_wp2_with fail
      rw [← HR.out, ofB_yes HY.out]
      refine bodyPost_ret (v := .tuple #[.agg #[.int .i64 r.x1, .int .i64 r.y1, .int .i64 r.x2, .int .i64 r.y2], .bool true]) ?_ rfl ⟨rfl, ?_⟩
      · simp [results, Try.results38, go_sem, *]
      · exact (((hB.setCell (by simp) _).setCell (by simp) _).setCell (by simp) _).setCell (by simp) _

theorem refOf_any (l : List (Int × Int)) (A : Option Addr) (c : Nat) (w : World) (hA : PtsAt w w.heap.size A l) (hn : l.length ≤ 300) :
    Calls Try.prog 38 #[.slice A l.length c] w fun e w' => e = .returned (.tuple #[.agg #[.int .i64 (ofR l).x1, .int .i64 (ofR l).y1, .int .i64 (ofR l).x2, .int .i64 (ofR l).y2], .bool (ofB l)]) ∧ Below w.heap.size w w' := by
  cases l with
  | nil => exact refOf_nil A c w
  | cons p t =>
    obtain ⟨b, off, rfl, hb, hc⟩ := hA (by simp)
    exact refOf_some p t b off c w hb hn hc
end Go.Proofs.Ythakngphffoooaa.Rc
/-
  The contract of the document's answer Inside of layer 3 (poly), for a list of 1 to 70 points that may be, and a point that may be. Memory that was there is left as it was.
-/
namespace Go.Proofs.Ythakngphffoooaa.Pl
open Go.RowKit Go.Proofs.Ythakngphffoooaa.Pt Go.Proofs.Ythakngphffoooaa.Rc Go.Proofs.Ythakngphffoooaa.Pts
set_option linter.unusedVariables false

def Pc (W : World) (g : Nat) (x y : Int) : Prop := W.cell? ⟨g, 0, none⟩ = some (.int .i64 x) ∧ W.cell? ⟨g, 1, none⟩ = some (.int .i64 y)
theorem Pc.alloc {W : World} {g : Nat} {x y : Int} (h : Pc W g x y) (o : Obj) : Pc (W.alloc o) g x y :=
  ⟨cell_later ((Below.refl _ _).alloc (Nat.le_refl _) _) h.1, cell_later ((Below.refl _ _).alloc (Nat.le_refl _) _) h.2⟩
theorem Pc.far {W : World} {g : Nat} {x y : Int} (h : Pc W g x y) {p : Addr} (v : Value) (hp : p.block ≠ g) : Pc (W.setCell p v) g x y := ⟨(cell_far W v hp).trans h.1, (cell_far W v hp).trans h.2⟩
theorem Pt2.pc {W : World} {g : Nat} {x y : Int} (h : Pt2 W g x y) : Pc W g x y := ⟨h.1, h.2.1⟩
theorem Pt2.new (W : World) (x y : Int) (t : TypeId) : Pt2 (W.alloc (.cells #[.int .i64 x, .int .i64 y] t)) W.heap.size x y := Pt2.of x y t (by show (W.heap.push _)[W.heap.size]? = _; simp)
theorem Pt2.alloc {W : World} {g : Nat} {x y : Int} (h : Pt2 W g x y) (o : Obj) : Pt2 (W.alloc o) g x y := h.later ((Below.refl _ _).alloc (Nat.le_refl _) _)

def RaysRel (v : World) (l : List Pnt) (p : Pnt) (o i : Value) (wr : World) : Prop := ∃ k : Nat, k ≤ l.length ∧ o = .int .i64 (rays k (at_ l) p) ∧ i = .int .i64 k ∧ anyTo (onF l p) k = false ∧ Below v.heap.size v wr

end Go.Proofs.Ythakngphffoooaa.Pl
/-
  The contract of Add of layer 1 (point), for any two points: the sum and no error where both and the sum may be, else a zero point and ErrRange. Memory that was there is left as it was.
-/
namespace Go.Proofs.Ythakngphffoooaa.Pt
open Go.RowKit

/-- Three blocks of two cells, the last of them not frozen: what a callee that only makes memory leaves of them. -/
theorem keep3 {w W w1 : World} {a0 a1 b0 b1 c0 c1 : Value} (hb : Below W.heap.size W w1)
    (hs : W.cell? ⟨w.heap.size, 0, none⟩ = some a0 ∧ W.cell? ⟨w.heap.size, 1, none⟩ = some a1 ∧ W.cell? ⟨w.heap.size + 1, 0, none⟩ = some b0 ∧ W.cell? ⟨w.heap.size + 1, 1, none⟩ = some b1
      ∧ W.cell? ⟨w.heap.size + 1 + 1, 0, none⟩ = some c0 ∧ W.cell? ⟨w.heap.size + 1 + 1, 1, none⟩ = some c1 ∧ W.frozen? ⟨w.heap.size + 1 + 1, 0, none⟩ = false ∧ W.frozen? ⟨w.heap.size + 1 + 1, 1, none⟩ = false
      ∧ w.heap.size + 3 ≤ W.heap.size ∧ Below w.heap.size w W) :
    w1.cell? ⟨w.heap.size, 0, none⟩ = some a0 ∧ w1.cell? ⟨w.heap.size, 1, none⟩ = some a1 ∧ w1.cell? ⟨w.heap.size + 1, 0, none⟩ = some b0 ∧ w1.cell? ⟨w.heap.size + 1, 1, none⟩ = some b1
      ∧ w1.cell? ⟨w.heap.size + 1 + 1, 0, none⟩ = some c0 ∧ w1.cell? ⟨w.heap.size + 1 + 1, 1, none⟩ = some c1 ∧ w1.frozen? ⟨w.heap.size + 1 + 1, 0, none⟩ = false ∧ w1.frozen? ⟨w.heap.size + 1 + 1, 1, none⟩ = false
      ∧ w.heap.size + 3 ≤ w1.heap.size ∧ Below w.heap.size w w1 := by
  obtain ⟨h1, h2, h3, h4, h5, h6, h7, h8, hz, hB⟩ := hs
  obtain ⟨hc, hf⟩ := bcell hb
  have hsz := hb.size
  refine ⟨?_, ?_, ?_, ?_, ?_, ?_, ?_, ?_, by omega, hB.trans (hb.mono (by omega))⟩
  · rw [hc _ _ (by omega)]; exact h1
  · rw [hc _ _ (by omega)]; exact h2
  · rw [hc _ _ (by omega)]; exact h3
  · rw [hc _ _ (by omega)]; exact h4
  · rw [hc _ _ (by omega)]; exact h5
  · rw [hc _ _ (by omega)]; exact h6
  · rw [hf _ _ (by omega)]; exact h7
  · rw [hf _ _ (by omega)]; exact h8
theorem laid3 (w : World) (a0 a1 b0 b1 c0 c1 : Value) (t : TypeId) :
    let W := (((w.alloc (.cells #[a0, a1] t)).alloc (.cells #[b0, b1] t)).alloc (.cells #[c0, c1] t))
    W.cell? ⟨w.heap.size, 0, none⟩ = some a0 ∧ W.cell? ⟨w.heap.size, 1, none⟩ = some a1 ∧ W.cell? ⟨w.heap.size + 1, 0, none⟩ = some b0 ∧ W.cell? ⟨w.heap.size + 1, 1, none⟩ = some b1
      ∧ W.cell? ⟨w.heap.size + 1 + 1, 0, none⟩ = some c0 ∧ W.cell? ⟨w.heap.size + 1 + 1, 1, none⟩ = some c1 ∧ W.frozen? ⟨w.heap.size + 1 + 1, 0, none⟩ = false ∧ W.frozen? ⟨w.heap.size + 1 + 1, 1, none⟩ = false
      ∧ w.heap.size + 3 ≤ W.heap.size ∧ Below w.heap.size w W := by
  intro W
  refine ⟨?_, ?_, ?_, ?_, ?_, ?_, ?_, ?_, ?_, ?_⟩
  all_goals try (simp [W, go_sem]; done)
  exact (((Below.refl _ _).alloc (Nat.le_refl _) _).alloc (by simp) _).alloc (by simp; omega) _

theorem last3 {p0 p1 p2 p3 p4 p5 p6 p7 p8 : Prop} {w W : World} (h : p0 ∧ p1 ∧ p2 ∧ p3 ∧ p4 ∧ p5 ∧ p6 ∧ p7 ∧ p8 ∧ Below w.heap.size w W) : Below w.heap.size w W := h.2.2.2.2.2.2.2.2.2

set_option maxHeartbeats 400000 in
theorem add_no1 (px py dx dy : Int) (w : World) (h1 : mayB px py = false) :
    Calls Try.prog 49 #[.agg #[.int .i64 px, .int .i64 py], .agg #[.int .i64 dx, .int .i64 dy]] w fun e w' => e = .returned (.tuple #[.agg #[.int .i64 0, .int .i64 0], .iface 37 (.int .i64 11)]) ∧ Below w.heap.size w w' := by
  have L := laid3 w (.int .i64 px) (.int .i64 py) (.int .i64 dx) (.int .i64 dy) (.int .i64 0) (.int .i64 0) 28
  go_enter Try.func49, Try.ntmps49
  go_wp2_with (go_at_call 32; refine (may_any _ _ _).mono ?_; rintro e w1 ⟨rfl, hb1⟩; have K1 := keep3 hb1 (by assumption); clear hb1)
  refine bodyPost_ret (v := .tuple #[.agg #[.int .i64 0, .int .i64 0], .iface 37 (.int .i64 11)]) ?_ rfl ⟨rfl, ?_⟩
  · simp [results, Try.results49, go_sem, *]
  · exact ((last3 (by assumption)).setCell (by simp; omega) _).setCell (by simp; omega) _

set_option maxHeartbeats 400000 in
theorem add_no2 (px py dx dy : Int) (w : World) (h1 : mayB px py = true) (h2 : mayB dx dy = false) :
    Calls Try.prog 49 #[.agg #[.int .i64 px, .int .i64 py], .agg #[.int .i64 dx, .int .i64 dy]] w fun e w' => e = .returned (.tuple #[.agg #[.int .i64 0, .int .i64 0], .iface 37 (.int .i64 11)]) ∧ Below w.heap.size w w' := by
  have L := laid3 w (.int .i64 px) (.int .i64 py) (.int .i64 dx) (.int .i64 dy) (.int .i64 0) (.int .i64 0) 28
  go_enter Try.func49, Try.ntmps49
  go_wp2_with (go_at_call 32; refine (may_any _ _ _).mono ?_; rintro e w1 ⟨rfl, hb1⟩; have K1 := keep3 hb1 (by assumption); clear hb1)
  refine bodyPost_ret (v := .tuple #[.agg #[.int .i64 0, .int .i64 0], .iface 37 (.int .i64 11)]) ?_ rfl ⟨rfl, ?_⟩
  · simp [results, Try.results49, go_sem, *]
  · exact ((last3 (by assumption)).setCell (by simp; omega) _).setCell (by simp; omega) _

/-- A new block behind them. -/
theorem more3 {w W : World} {a0 a1 b0 b1 c0 c1 : Value} (o : Obj)
    (hs : W.cell? ⟨w.heap.size, 0, none⟩ = some a0 ∧ W.cell? ⟨w.heap.size, 1, none⟩ = some a1 ∧ W.cell? ⟨w.heap.size + 1, 0, none⟩ = some b0 ∧ W.cell? ⟨w.heap.size + 1, 1, none⟩ = some b1
      ∧ W.cell? ⟨w.heap.size + 1 + 1, 0, none⟩ = some c0 ∧ W.cell? ⟨w.heap.size + 1 + 1, 1, none⟩ = some c1 ∧ W.frozen? ⟨w.heap.size + 1 + 1, 0, none⟩ = false ∧ W.frozen? ⟨w.heap.size + 1 + 1, 1, none⟩ = false
      ∧ w.heap.size + 3 ≤ W.heap.size ∧ Below w.heap.size w W) :
    (W.alloc o).cell? ⟨w.heap.size, 0, none⟩ = some a0 ∧ (W.alloc o).cell? ⟨w.heap.size, 1, none⟩ = some a1 ∧ (W.alloc o).cell? ⟨w.heap.size + 1, 0, none⟩ = some b0 ∧ (W.alloc o).cell? ⟨w.heap.size + 1, 1, none⟩ = some b1
      ∧ (W.alloc o).cell? ⟨w.heap.size + 1 + 1, 0, none⟩ = some c0 ∧ (W.alloc o).cell? ⟨w.heap.size + 1 + 1, 1, none⟩ = some c1 ∧ (W.alloc o).frozen? ⟨w.heap.size + 1 + 1, 0, none⟩ = false ∧ (W.alloc o).frozen? ⟨w.heap.size + 1 + 1, 1, none⟩ = false
      ∧ w.heap.size + 3 ≤ (W.alloc o).heap.size ∧ Below w.heap.size w (W.alloc o) :=
  keep3 ((Below.refl _ _).alloc (Nat.le_refl _) _) hs

set_option maxHeartbeats 400000 in
theorem add_no3 (px py dx dy : Int) (w : World) (h1 : mayB px py = true) (h2 : mayB dx dy = true) (h3 : mayB (px + dx) (py + dy) = false) :
    Calls Try.prog 49 #[.agg #[.int .i64 px, .int .i64 py], .agg #[.int .i64 dx, .int .i64 dy]] w fun e w' => e = .returned (.tuple #[.agg #[.int .i64 0, .int .i64 0], .iface 37 (.int .i64 11)]) ∧ Below w.heap.size w w' := by
  have L := laid3 w (.int .i64 px) (.int .i64 py) (.int .i64 dx) (.int .i64 dy) (.int .i64 0) (.int .i64 0) 28
  obtain ⟨a1, a2⟩ := mayB_bd h1; obtain ⟨b1, b2⟩ := mayB_bd h2
  rw [inR_iff] at a1 a2 b1 b2
  obtain ⟨_, _⟩ := a1; obtain ⟨_, _⟩ := a2; obtain ⟨_, _⟩ := b1; obtain ⟨_, _⟩ := b2
  go_enter Try.func49, Try.ntmps49
  go_wp2_with fail
  refine (may_any _ _ _).mono ?_
  rintro e w1 ⟨rfl, hb1⟩
  have K1 := keep3 hb1 L; clear hb1
  go_wp2_with fail
  refine (may_any _ _ _).mono ?_
  rintro e w2 ⟨rfl, hb2⟩
  have K2 := keep3 hb2 K1; clear hb2
  go_wp2_with fail
  refine (may_any _ _ _).mono ?_
  rintro e w3 ⟨rfl, hb3⟩
  have K3 := keep3 hb3 (more3 _ K2); clear hb3
  go_wp2_with fail
  refine bodyPost_ret (v := .tuple #[.agg #[.int .i64 0, .int .i64 0], .iface 37 (.int .i64 11)]) ?_ rfl ⟨rfl, ?_⟩
  · simp [results, Try.results49, go_sem, *]
  · exact ((last3 (by assumption)).setCell (by simp; omega) _).setCell (by simp; omega) _

set_option maxHeartbeats 400000 in
theorem add_ok (px py dx dy : Int) (w : World) (h1 : mayB px py = true) (h2 : mayB dx dy = true) (h3 : mayB (px + dx) (py + dy) = true) :
    Calls Try.prog 49 #[.agg #[.int .i64 px, .int .i64 py], .agg #[.int .i64 dx, .int .i64 dy]] w fun e w' => e = .returned (.tuple #[.agg #[.int .i64 (px + dx), .int .i64 (py + dy)], .nilIface]) ∧ Below w.heap.size w w' := by
  have L := laid3 w (.int .i64 px) (.int .i64 py) (.int .i64 dx) (.int .i64 dy) (.int .i64 0) (.int .i64 0) 28
  obtain ⟨a1, a2⟩ := mayB_bd h1; obtain ⟨b1, b2⟩ := mayB_bd h2
  rw [inR_iff] at a1 a2 b1 b2
  obtain ⟨_, _⟩ := a1; obtain ⟨_, _⟩ := a2; obtain ⟨_, _⟩ := b1; obtain ⟨_, _⟩ := b2
  go_enter Try.func49, Try.ntmps49
  go_wp2_with fail
  refine (may_any _ _ _).mono ?_
  rintro e w1 ⟨rfl, hb1⟩
  have K1 := keep3 hb1 L; clear hb1
  go_wp2_with fail
  refine (may_any _ _ _).mono ?_
  rintro e w2 ⟨rfl, hb2⟩
  have K2 := keep3 hb2 K1; clear hb2
  go_wp2_with fail
  refine (may_any _ _ _).mono ?_
  rintro e w3 ⟨rfl, hb3⟩
  have K3 := keep3 hb3 (more3 _ K2)
  have Q1 : w3.cell? ⟨w2.heap.size, 0, none⟩ = some (.int .i64 (px + dx)) := by rw [hb3.cell (by simp)]; simp [go_sem]
  have Q2 : w3.cell? ⟨w2.heap.size, 1, none⟩ = some (.int .i64 (py + dy)) := by rw [hb3.cell (by simp)]; simp [go_sem]
  clear hb3
  go_wp2_with fail
  refine bodyPost_ret (v := .tuple #[.agg #[.int .i64 (px + dx), .int .i64 (py + dy)], .nilIface]) ?_ rfl ⟨rfl, ?_⟩
  · simp [results, Try.results49, go_sem, *]
  · exact ((last3 (by assumption)).setCell (by simp; omega) _).setCell (by simp; omega) _
end Go.Proofs.Ythakngphffoooaa.Pt
/-
  The contract of Move of layer 3 (poly), for any list of at most 70 points and any point. Memory that was there is left as it was; the points that it tells lie in a new block.
-/
namespace Go.Proofs.Ythakngphffoooaa.Pl
open Go.RowKit Go.Proofs.Ythakngphffoooaa.Pt Go.Proofs.Ythakngphffoooaa.Rc Go.Proofs.Ythakngphffoooaa.Pts
set_option linter.unusedVariables false

theorem neq_range (w : World) : (binOp .neq 32 (.iface 37 (.int .i64 11)) .nilIface).run Try.prog w = .ok (.bool true) w := by kernel_rfl
theorem neq_nil (w : World) : (binOp .neq 32 .nilIface .nilIface).run Try.prog w = .ok (.bool false) w := by kernel_rfl

/-- A row of n points in block g, that may be written; the first ones are these. -/
def Row (W : World) (g n : Nat) (ps : List Pnt) : Prop := (∀ j, j < n * 2 → (W.cell? ⟨g, j, none⟩).isSome = true) ∧ (∀ j, W.frozen? ⟨g, j, none⟩ = false) ∧ ∀ (k : Nat) (h : k < ps.length), W.cell? ⟨g, k * 2, none⟩ = some (.int .i64 ps[k].1) ∧ W.cell? ⟨g, k * 2 + 1, none⟩ = some (.int .i64 ps[k].2)
theorem Row.below {W w1 : World} {g n B : Nat} {ps : List Pnt} (h : Row W g n ps) (hb : Below B W w1) (hg : g < B) : Row w1 g n ps := by
  obtain ⟨a, b, c⟩ := h
  have hc := fun o => hb.cell (p := ⟨g, o, none⟩) hg
  have hf := fun o => hb.frozen (p := ⟨g, o, none⟩) hg
  exact ⟨fun j hj => by rw [hc j]; exact a j hj, fun j => by rw [hf j]; exact b j, fun k hk => ⟨by rw [hc]; exact (c k hk).1, by rw [hc]; exact (c k hk).2⟩⟩
theorem Row.lt {W : World} {g n : Nat} {ps : List Pnt} (h : Row W g n ps) (hn : 0 < n) : g < W.heap.size := by
  obtain ⟨u, hu⟩ := Option.isSome_iff_exists.1 (h.1 0 (by omega))
  exact World.block_lt_of_cell? W ⟨g, 0, none⟩ hu
theorem Row.put {W : World} {g n : Nat} {ps : List Pnt} (h : Row W g n ps) (k : Nat) (hk : ps.length = k) (hn : k < n) (x y : Int) :
    Row ((W.setCell ⟨g, k * 2, none⟩ (.int .i64 x)).setCell ⟨g, k * 2 + 1, none⟩ (.int .i64 y)) g n (ps ++ [(x, y)]) := by
  obtain ⟨a, b, c⟩ := h
  have oth : ∀ j, j ≠ k * 2 → j ≠ k * 2 + 1 → ((W.setCell ⟨g, k * 2, none⟩ (.int .i64 x)).setCell ⟨g, k * 2 + 1, none⟩ (.int .i64 y)).cell? ⟨g, j, none⟩ = W.cell? ⟨g, j, none⟩ := fun j h1 h2 => by
    rw [World.cell?_setCell_other _ _ _ _ (fun e => h2 (by simpa using (congrArg Addr.off e).symm)), World.cell?_setCell_other _ _ _ _ (fun e => h1 (by simpa using (congrArg Addr.off e).symm))]
  have fst : ((W.setCell ⟨g, k * 2, none⟩ (.int .i64 x)).setCell ⟨g, k * 2 + 1, none⟩ (.int .i64 y)).cell? ⟨g, k * 2, none⟩ = some (.int .i64 x) := by
    rw [World.cell?_setCell_other _ _ _ _ (fun e => absurd (congrArg Addr.off e) (by simp))]
    exact World.cell?_setCell_same' _ _ _ (a _ (by omega))
  have snd : ((W.setCell ⟨g, k * 2, none⟩ (.int .i64 x)).setCell ⟨g, k * 2 + 1, none⟩ (.int .i64 y)).cell? ⟨g, k * 2 + 1, none⟩ = some (.int .i64 y) := by
    refine World.cell?_setCell_same' _ _ _ ?_
    rw [World.cell?_setCell_other _ _ _ _ (fun e => absurd (congrArg Addr.off e) (by simp))]
    exact a _ (by omega)
  refine ⟨fun j hj => ?_, fun j => by rw [frozen_set, frozen_set]; exact b j, fun i hi => ?_⟩
  · by_cases h1 : j = k * 2
    · subst h1; rw [fst]; rfl
    · by_cases h2 : j = k * 2 + 1
      · subst h2; rw [snd]; rfl
      · rw [oth j h1 h2]; exact a j hj
  · rw [List.length_append] at hi
    simp at hi
    by_cases hik : i < ps.length
    · rw [oth _ (by omega) (by omega), oth _ (by omega) (by omega), List.getElem_append_left hik]
      exact c i hik
    · have hie : i = k := by omega
      subst hie
      rw [List.getElem_append_right (by omega)]
      simp [hk, fst, snd]
theorem Row.pts {W : World} {g n : Nat} {ps : List Pnt} (h : Row W g n ps) (hn : 0 < n) : PtsAt W W.heap.size (some ⟨g, 0, none⟩) ps := fun _ => ⟨g, 0, rfl, h.lt hn, fun k hk => by simpa using h.2.2 k hk⟩
theorem Row.old {W : World} {g n : Nat} {ps : List Pnt} (h : Row W g n ps) (k : Nat) (hn : k < n) :
    ∃ u1 u2, W.cell? ⟨g, k * 2, none⟩ = some u1 ∧ W.cell? ⟨g, k * 2 + 1, none⟩ = some u2 ∧ W.frozen? ⟨g, k * 2, none⟩ = false ∧ W.frozen? ⟨g, k * 2 + 1, none⟩ = false := by
  obtain ⟨u1, h1⟩ := Option.isSome_iff_exists.1 (h.1 (k * 2) (by omega))
  obtain ⟨u2, h2⟩ := Option.isSome_iff_exists.1 (h.1 (k * 2 + 1) (by omega))
  exact ⟨u1, u2, h1, h2, h.2.1 _, h.2.1 _⟩
theorem Row.made {W : World} {base e g n cap : Nat} {xs : List Value} (h : W.ownsRow base e 2 (.slice (some ⟨g, 0, none⟩) n cap) n xs) : Row W g n [] := by
  refine ⟨fun j hj => ?_, fun j => h.frozenAt j, fun k hk => by simp at hk⟩
  rw [h.cellAt j hj]
  have := h.1
  rw [List.getElem?_eq_getElem (by omega)]; rfl

/-- May this one be moved? -/
def stepB (d p : Pnt) : Bool := pmay d && pmay (addP p d)
theorem fine_yes {l : List Pnt} {d : Pnt} (h0 : 0 < l.length) (h : ∀ i (hi : i < l.length), stepB d l[i] = true) : fineB l d = true := by
  unfold fineB
  have h1 := h 0 h0
  unfold stepB at h1 h
  rw [Bool.and_eq_true] at h1
  rw [Bool.and_eq_true, List.all_eq_true]
  refine ⟨h1.1, fun p hp => ?_⟩
  obtain ⟨i, hi, rfl⟩ := List.getElem_of_mem hp
  have := h i hi
  rw [Bool.and_eq_true] at this
  exact this.2
theorem fine_no {l : List Pnt} {d : Pnt} {k : Nat} (hk : k < l.length) (h : stepB d l[k] = false) : fineB l d = false := by
  rw [← Bool.not_eq_true]
  unfold fineB
  rw [Bool.and_eq_true, List.all_eq_true]
  rintro ⟨h1, h2⟩
  have := h2 _ (List.getElem_mem hk)
  unfold stepB at h
  rw [h1, this] at h
  cases h
theorem take_move {l : List Pnt} {d : Pnt} {k : Nat} (hk : k < l.length) : moveL (l.take (k + 1)) d = moveL (l.take k) d ++ [(l[k].1 + d.1, l[k].2 + d.2)] := by
  unfold moveL
  rw [List.take_succ_eq_append_getElem hk, List.map_append]; rfl

theorem add_fine (p d : Pnt) (w : World) (hp : pmay p = true) (h : stepB d p = true) :
    Calls Try.prog 49 #[.agg #[.int .i64 p.1, .int .i64 p.2], .agg #[.int .i64 d.1, .int .i64 d.2]] w fun e w' => e = .returned (.tuple #[.agg #[.int .i64 (p.1 + d.1), .int .i64 (p.2 + d.2)], .nilIface]) ∧ Below w.heap.size w w' := by
  unfold stepB at h
  rw [Bool.and_eq_true] at h
  exact add_ok p.1 p.2 d.1 d.2 w hp h.1 h.2
theorem add_bad (p d : Pnt) (w : World) (hp : pmay p = true) (h : stepB d p = false) :
    Calls Try.prog 49 #[.agg #[.int .i64 p.1, .int .i64 p.2], .agg #[.int .i64 d.1, .int .i64 d.2]] w fun e w' => e = .returned (.tuple #[.agg #[.int .i64 0, .int .i64 0], .iface 37 (.int .i64 11)]) ∧ Below w.heap.size w w' := by
  unfold stepB at h
  cases h1 : pmay d
  · exact add_no2 p.1 p.2 d.1 d.2 w hp h1
  · rw [h1] at h
    exact add_no3 p.1 p.2 d.1 d.2 w hp h1 h

set_option maxHeartbeats 1000000 in
theorem move_arg (l : List Pnt) (A : Option Addr) (c : Nat) (d : Pnt) (w : World) (hA : PtsAt w w.heap.size A l) (hn : l.length ≤ 70) (hs : simpleB l = false) :
    Calls Try.prog 48 #[.slice A l.length c, .agg #[.int .i64 d.1, .int .i64 d.2]] w fun e w' => e = .returned (.tuple #[.slice none 0 0, .iface 37 (.int .i64 1)]) ∧ Below w.heap.size w w' := by
  have C1 := Lib.hid (fun W (h : Below w.heap.size w W) => simple_any l A c W ((hA.later h).wide h.size) hn)
  rw [hs] at C1
  obtain ⟨n, e⟩ : ∃ n, n = l.length := ⟨_, rfl⟩
  rw [← e] at C1 ⊢
  clear e hA hs hn
  have L := Lib.hid (Kp.add0 ⟨Nat.le_refl _, Below.refl w.heap.size w⟩ w.heap.size rfl (.int .i64 d.1) (.int .i64 d.2) 28)
  go_enter Try.func48, Try.ntmps48
  go_wp2_with fail
  refine (C1.out _ (Kp.end2 L.out)).mono ?_
  rintro e w1 ⟨rfl, hb1⟩
  have K1 := Kp.keep2 hb1 L.out
  clear hb1 L
  go_wp2_with fail
  refine bodyPost_ret (v := .tuple #[.slice none 0 0, .iface 37 (.int .i64 1)]) (by simp [results, Try.results48, go_sem]) rfl ⟨rfl, Kp.end2 K1⟩

theorem A.infoPt : (Try.prog.info? 28).map (fun i => (i.zero, i.size, i.bytes)) = some (some (.agg #[.int .i64 0, .int .i64 0]), 2, 16) := by kernel_rfl

def MoveRel (v : World) (g : Nat) (l : List Pnt) (d : Pnt) (i : Value) (wr : World) : Prop :=
  ∃ k : Nat, k ≤ l.length ∧ i = .int .i64 k ∧ (∀ j (hj : j < l.length), j < k → stepB d l[j] = true) ∧ Row wr g l.length (moveL (l.take k) d) ∧ Below v.heap.size v wr

set_option maxHeartbeats 2000000 in
theorem move_new (l : List Pnt) (A : Option Addr) (c : Nat) (d : Pnt) (w : World) (hA : PtsAt w w.heap.size A l) (hs : simpleB l = true) :
    Calls Try.prog 48 #[.slice A l.length c, .agg #[.int .i64 d.1, .int .i64 d.2]] w fun e w' => Below w.heap.size w w' ∧
      ((fineB l d = true ∧ ∃ g, e = .returned (.tuple #[.slice (some ⟨g, 0, none⟩) l.length l.length, .nilIface]) ∧ PtsAt w' w'.heap.size (some ⟨g, 0, none⟩) (moveL l d) ∧ w.heap.size ≤ g) ∨
       (fineB l d = false ∧ e = .returned (.tuple #[.slice none 0 0, .iface 37 (.int .i64 11)]))) := by
  obtain ⟨hm, h3, hn⟩ := simpleB_all hs
  have C1 := Lib.hid (fun W (h : Below w.heap.size w W) => simple_any l A c W ((hA.later h).wide h.size) (by omega))
  rw [hs] at C1
  have HA := Lib.hid hA
  obtain ⟨b, off, rfl, hb, hc⟩ := hA (by intro h; subst h; simp at h3)
  have HC := Lib.hid hc
  have HM := Lib.hid hm
  obtain ⟨n, e⟩ : ∃ n, n = l.length := ⟨_, rfl⟩
  rw [← e] at C1 h3 hn ⊢
  have E := Lib.hid e
  clear e hA hs hm hc
  have L := Lib.hid (Kp.add0 ⟨Nat.le_refl _, Below.refl w.heap.size w⟩ w.heap.size rfl (.int .i64 d.1) (.int .i64 d.2) 28)
  obtain ⟨i0, hi, hz0, hz1, hz2⟩ := info_parts A.infoPt
  have n1 := neq_range
  have n2 := neq_nil
  go_enter Try.func48, Try.ntmps48
  go_wp2_with fail
  refine (C1.out _ (Kp.end2 L.out)).mono ?_
  rintro e w1 ⟨rfl, hb1⟩
  have K1 := Lib.hid (Kp.keep2 hb1 L.out)
  clear hb1 L C1
  go_wp2_with (first | (at_make; refine wpList_make_full _ rfl _ _ 24 rfl w1.heap.size 28 i0 (.agg #[.int .i64 0, .int .i64 0]) 2 Try.underlying24 hi hz0 hz1 .i64 .i64 _ _ n rfl rfl rfl rfl (by rw [hz2]; omega) (by unfold maxLen; omega) (Nat.le_refl _) ?_; intro w2 hown hgrow))
  have R0 := Lib.hid (Row.made hown)
  have B2 := Lib.hid ((Below.refl w1.heap.size w1).grown hgrow (Nat.le_refl _) (fun k hk => by cases hk))
  clear hown hgrow
  obtain ⟨g, hg⟩ : ∃ g, g = w1.heap.size := ⟨_, rfl⟩
  rw [← hg] at R0 ⊢
  have G := Lib.hid hg
  clear hg
  go_wp2_with fail
  go_loopw [20] (fun i wr => MoveRel w1 g l d i wr) (fun i _ => n - (intOf i).toNat)
  case atStart => exact ⟨0, Nat.zero_le _, rfl, fun _ _ h => by omega, by rw [← E.out]; exact R0.out, B2.out⟩
  case round =>
    clear B2 R0
    obtain ⟨k, hk, rfl, hok, hR, hB⟩ := hrel
    rw [← E.out] at hR
    have HOK := Lib.hid hok
    clear hok
    by_cases hlt : k < n
    · have hkl : k < l.length := by rw [← E.out]; exact hlt
      have hBw : Below w.heap.size w wr := (Kp.end2 K1.out).trans (hB.mono (Kp.end2 K1.out).size)
      obtain ⟨p, hp⟩ : ∃ p, p = l[k] := ⟨_, rfl⟩
      have c1 : wr.cell? ⟨b, off + k * 2, none⟩ = some (.int .i64 p.1) := by rw [hp]; exact (hBw.cell (p := ⟨b, off + k * 2, none⟩) hb).trans (HC.out k hkl).1
      have c2 : wr.cell? ⟨b, off + k * 2 + 1, none⟩ = some (.int .i64 p.2) := by rw [hp]; exact (hBw.cell (p := ⟨b, off + k * 2 + 1, none⟩) hb).trans (HC.out k hkl).2
      have m1 : pmay p = true := by rw [hp]; exact List.all_eq_true.1 HM.out _ (List.getElem_mem hkl)
      have HP := Lib.hid hp
      clear hp
      have hk0 : (0 : Int) ≤ (k : Int) := by omega
      have hk1 : (k : Int) < (n : Int) := by omega
      have hgl : g < wr.heap.size := hR.lt (by omega)
      have K2 := Lib.hid (Kp.add2 ⟨cell_later hB K1.out.1, cell_later hB K1.out.2.1, hB.size, hB⟩ wr.heap.size rfl (.int .i64 p.1) (.int .i64 p.2) 28)
      have R2 := Lib.hid (hR.below ((Below.refl wr.heap.size wr).alloc (Nat.le_refl _) (.cells #[.int .i64 p.1, .int .i64 p.2] 28)) hgl)
      have z2 := K2.out
      clear hR hBw
      go_wp2_with fail
      cases hst : stepB d p
      · refine (add_bad p d _ m1 hst).mono ?_
        rintro e w3 ⟨rfl, hb3⟩
        have K3 := Kp.keep4 hb3 K2.out
        clear hb3 c1 c2 z2 K2 R2
        have HF := Lib.hid (fine_no (l := l) hkl (show stepB d l[k] = false by rw [← HP.out]; exact hst))
        have BB := Kp.end6 (Kp.add4 K3 w3.heap.size rfl (.int .i64 0) (.int .i64 0) 28)
        go_wp2_with fail
        refine bodyPost_ret (v := .tuple #[.slice none 0 0, .iface 37 (.int .i64 11)]) (by simp [results, Try.results48, go_sem]) rfl ⟨?_, Or.inr ⟨HF.out, rfl⟩⟩
        exact (Kp.end2 K1.out).trans (BB.mono (Kp.end2 K1.out).size)
      · refine (add_fine p d _ m1 hst).mono ?_
        rintro e w3 ⟨rfl, hb3⟩
        have K3 := Kp.keep4 hb3 K2.out
        have R3 := R2.out.below hb3 (by simp; omega)
        have hg3 : g < w3.heap.size := by have := hb3.size; simp at this; omega
        have BB := Kp.end4 K3
        obtain ⟨u1, u2, o1, o2, f1, f2⟩ := R3.old k hlt
        have R5 := Lib.hid (R3.put k (by unfold moveL; rw [List.length_map, List.length_take]; omega) hlt (p.1 + d.1) (p.2 + d.2))
        clear hb3 c1 c2 z2 K2 R2 K3 R3
        go_wp2_with fail
        go_roundw
        case rel =>
          refine ⟨k + 1, by omega, by go_num, fun j hj hjk => ?_, ?_, ?_⟩
          · by_cases hjk2 : j = k
            · subst hjk2; rw [← HP.out]; exact hst
            · exact HOK.out j hj (by omega)
          · rw [take_move hkl, ← HP.out, ← E.out]; exact R5.out.below ((Below.refl _ _).alloc (Nat.le_refl _) _) (R5.out.lt (by omega))
          · exact ((BB.setCell (by rw [← G.out]; exact Nat.le_refl _) _).setCell (by rw [← G.out]; exact Nat.le_refl _) _).alloc (by have := BB.size; simp; omega) _
        case measure => simp [intOf]; omega
    · have hkn : k = n := by have := E.out; omega
      have HF := Lib.hid (fine_yes (l := l) (d := d) (by have := E.out; omega) (fun i hi => HOK.out i hi (by have := E.out; omega)))
      have HR : Hid (PtsAt wr wr.heap.size (some ⟨g, 0, none⟩) (moveL l d)) := Lib.hid (by
        have h := hR.pts (by omega)
        rw [hkn, E.out, List.take_of_length_le (Nat.le_refl _)] at h
        exact h)
      clear hkn hR
      go_wp2_with fail
      refine bodyPost_ret (v := .tuple #[.slice (some ⟨g, 0, none⟩) n n, .nilIface]) (by simp [results, Try.results48, go_sem]) rfl ⟨?_, Or.inl ⟨HF.out, g, rfl, HR.out, by have := (Kp.end2 K1.out).size; rw [← G.out] at this; exact this⟩⟩
      exact (Kp.end2 K1.out).trans (hB.mono (Kp.end2 K1.out).size)
theorem move_some (l : List Pnt) (A : Option Addr) (c : Nat) (d : Pnt) (w : World) (hA : PtsAt w w.heap.size A l) (hs : simpleB l = true) :
    Calls Try.prog 48 #[.slice A l.length c, .agg #[.int .i64 d.1, .int .i64 d.2]] w fun e w' => Below w.heap.size w w' ∧
      ((fineB l d = true ∧ ∃ g, e = .returned (.tuple #[.slice (some ⟨g, 0, none⟩) l.length l.length, .nilIface]) ∧ PtsAt w' w'.heap.size (some ⟨g, 0, none⟩) (moveL l d)) ∨
       (fineB l d = false ∧ e = .returned (.tuple #[.slice none 0 0, .iface 37 (.int .i64 11)]))) :=
  (move_new l A c d w hA hs).mono fun e w' ⟨hb, h⟩ => ⟨hb, h.imp (fun ⟨hf, g, he, hp, _⟩ => ⟨hf, g, he, hp⟩) id⟩
end Go.Proofs.Ythakngphffoooaa.Pl
/-
  Contracts of Box and In of layer 16 (region), of the document's Box and In, and of its add. Memory that was there is left as it was.
-/
namespace Go.Proofs.Ythakngphffoooaa.Rg
open Go.RowKit Go.Proofs.Ythakngphffoooaa.Pt Go.Proofs.Ythakngphffoooaa.Rc Go.Proofs.Ythakngphffoooaa.Pts Go.Proofs.Ythakngphffoooaa.Pl
set_option linter.unusedVariables false

set_option maxHeartbeats 1000000 in
theorem box_bad (a b c d : Int) (l : List Pnt) (A : Option Addr) (k : Nat) (w : World) (hA : PtsAt w w.heap.size A l) (hn : l.length ≤ 70) (hg : rgB a b c d l = false) :
    Calls Try.prog 16 #[.agg #[.int .i64 a, .int .i64 b, .int .i64 c, .int .i64 d, .slice A l.length k]] w fun e w' => e = .returned (.tuple #[.agg #[.int .i64 0, .int .i64 0, .int .i64 0, .int .i64 0], .iface 37 (.int .i64 1)]) ∧ Below w.heap.size w w' := by
  have C1 := Lib.hid (fun W (h : Below w.heap.size w W) => may_any a b c d l A k W ((hA.later h).wide h.size) hn)
  rw [hg] at C1
  obtain ⟨n, e⟩ : ∃ n, n = l.length := ⟨_, rfl⟩
  rw [← e] at C1 ⊢
  clear e hA hn hg
  have L := Lib.hid ((Kp.two (Kp.behind _ (.cells #[.int .i64 0, .int .i64 0, .int .i64 0, .int .i64 0] 23)) (Kp.two (Kp.behind _ (.cells #[.int .i64 0, .int .i64 0, .int .i64 0, .int .i64 0] 23)) (Kp.one (Kp.behind _ (.cells #[.int .i64 0, .int .i64 0, .int .i64 0, .int .i64 0] 23)) (fun h => Kp.adq0 h (w.heap.size + 1) (by simp) (.int .i64 0) (.int .i64 0) (.int .i64 0) (.int .i64 0) 23)))) ((fun h => Kp.ad50 h w.heap.size rfl (.int .i64 a) (.int .i64 b) (.int .i64 c) (.int .i64 d) (.slice A n k) 26) ⟨Nat.le_refl _, Below.refl w.heap.size w⟩))
  have z := L.out
  have F0 : ∀ o, ((w.alloc (.cells #[.int .i64 a, .int .i64 b, .int .i64 c, .int .i64 d, .slice A n k] 26)).alloc (.cells #[.int .i64 0, .int .i64 0, .int .i64 0, .int .i64 0] 23)).frozen? ⟨w.heap.size + 1, o, none⟩ = false := fun o => by simp
  go_enter Try.func16, Try.ntmps16
  go_wp2_with fail
  refine (C1.out _ L.out.2.2.2.2.2.2.2.2.2.2).mono ?_
  rintro e w1 ⟨rfl, hb1⟩
  have K1 := Lib.hid ((Kp.two hb1 (Kp.two hb1 (Kp.two hb1 (Kp.two hb1 (Kp.one hb1 (Kp.ends hb1)))))) L.out)
  have z1 := K1.out
  have F1 := Kp.soft hb1 (by simp) F0
  have Z1 : w.heap.size + 1 < w1.heap.size := Nat.lt_of_lt_of_le (by simp) hb1.size
  clear hb1 z L F0
  go_wp2_with fail
  refine bodyPost_ret (v := .tuple #[.agg #[.int .i64 0, .int .i64 0, .int .i64 0, .int .i64 0], .iface 37 (.int .i64 1)]) (by simp [results, Try.results16, go_sem, *]) rfl ⟨rfl, ?_⟩
  have B := K1.out.2.2.2.2.2.2.2.2.2.2
  exact ((((B.setCell (by simp) _).setCell (by simp) _).setCell (by simp) _).setCell (by simp) _)
set_option maxHeartbeats 1000000 in
theorem box_rect (a b c d : Int) (A : Option Addr) (k : Nat) (w : World) (hg : rmayB a b c d = true) :
    Calls Try.prog 16 #[.agg #[.int .i64 a, .int .i64 b, .int .i64 c, .int .i64 d, .slice A 0 k]] w fun e w' => e = .returned (.tuple #[.agg #[.int .i64 a, .int .i64 b, .int .i64 c, .int .i64 d], .nilIface]) ∧ Below w.heap.size w w' := by
  have C1 := Lib.hid (fun W => may_no a b c d A k W)
  rw [hg] at C1
  clear hg
  have L := Lib.hid ((Kp.two (Kp.behind _ (.cells #[.int .i64 0, .int .i64 0, .int .i64 0, .int .i64 0] 23)) (Kp.two (Kp.behind _ (.cells #[.int .i64 0, .int .i64 0, .int .i64 0, .int .i64 0] 23)) (Kp.one (Kp.behind _ (.cells #[.int .i64 0, .int .i64 0, .int .i64 0, .int .i64 0] 23)) (fun h => Kp.adq0 h (w.heap.size + 1) (by simp) (.int .i64 0) (.int .i64 0) (.int .i64 0) (.int .i64 0) 23)))) ((fun h => Kp.ad50 h w.heap.size rfl (.int .i64 a) (.int .i64 b) (.int .i64 c) (.int .i64 d) (.slice A 0 k) 26) ⟨Nat.le_refl _, Below.refl w.heap.size w⟩))
  have z := L.out
  have F0 : ∀ o, ((w.alloc (.cells #[.int .i64 a, .int .i64 b, .int .i64 c, .int .i64 d, .slice A 0 k] 26)).alloc (.cells #[.int .i64 0, .int .i64 0, .int .i64 0, .int .i64 0] 23)).frozen? ⟨w.heap.size + 1, o, none⟩ = false := fun o => by simp
  go_enter Try.func16, Try.ntmps16
  go_wp2_with fail
  refine (C1.out _).mono ?_
  rintro e w1 ⟨rfl, hb1⟩
  have K1 := Lib.hid ((Kp.two hb1 (Kp.two hb1 (Kp.two hb1 (Kp.two hb1 (Kp.one hb1 (Kp.ends hb1)))))) L.out)
  have z1 := K1.out
  have F1 := Kp.soft hb1 (by simp) F0
  have Z1 : w.heap.size + 1 < w1.heap.size := Nat.lt_of_lt_of_le (by simp) hb1.size
  clear hb1 z L F0
  go_wp2_with fail
  refine (has_no a b c d A k _).mono ?_
  rintro e w2 ⟨rfl, hb2⟩
  have K2 := Lib.hid ((Kp.two hb2 (Kp.two hb2 (Kp.two hb2 (Kp.two hb2 (Kp.one hb2 (Kp.ends hb2)))))) K1.out)
  have z2 := K2.out
  have F2 := Kp.soft hb2 Z1 F1
  have Z2 : w.heap.size + 1 < w2.heap.size := Nat.lt_of_lt_of_le Z1 hb2.size
  clear hb2 z1 K1 F1 Z1
  go_wp2_with fail
  refine bodyPost_ret (v := .tuple #[.agg #[.int .i64 a, .int .i64 b, .int .i64 c, .int .i64 d], .nilIface]) (by simp [results, Try.results16, go_sem, *]) rfl ⟨rfl, ?_⟩
  have B := K2.out.2.2.2.2.2.2.2.2.2.2
  exact ((((B.setCell (by simp) _).setCell (by simp) _).setCell (by simp) _).setCell (by simp) _)
set_option maxHeartbeats 1000000 in
theorem box_poly (a b c d : Int) (l : List Pnt) (A : Option Addr) (k : Nat) (w : World) (hA : PtsAt w w.heap.size A l) (h0 : 0 < l.length) (hn : l.length ≤ 70) (hg : rgB a b c d l = true) :
    Calls Try.prog 16 #[.agg #[.int .i64 a, .int .i64 b, .int .i64 c, .int .i64 d, .slice A l.length k]] w fun e w' => e = .returned (.tuple #[.agg #[.int .i64 (ofR l).x1, .int .i64 (ofR l).y1, .int .i64 (ofR l).x2, .int .i64 (ofR l).y2], .nilIface]) ∧ Below w.heap.size w w' := by
  have C1 := Lib.hid (fun W (h : Below w.heap.size w W) => may_any a b c d l A k W ((hA.later h).wide h.size) hn)
  rw [hg] at C1
  have C2 := Lib.hid (fun W (h : Below w.heap.size w W) => of_any l A k W ((hA.later h).wide h.size) (by omega))
  obtain ⟨r, er⟩ : ∃ r, r = ofR l := ⟨_, rfl⟩
  obtain ⟨ok, eo⟩ : ∃ o, o = ofB l := ⟨_, rfl⟩
  rw [← er, ← eo] at C2
  rw [← er]
  obtain ⟨n, e⟩ : ∃ n, n = l.length := ⟨_, rfl⟩
  rw [← e] at C1 C2 h0 hn ⊢
  clear e hA hg er eo
  have L := Lib.hid ((Kp.two (Kp.behind _ (.cells #[.int .i64 0, .int .i64 0, .int .i64 0, .int .i64 0] 23)) (Kp.two (Kp.behind _ (.cells #[.int .i64 0, .int .i64 0, .int .i64 0, .int .i64 0] 23)) (Kp.one (Kp.behind _ (.cells #[.int .i64 0, .int .i64 0, .int .i64 0, .int .i64 0] 23)) (fun h => Kp.adq0 h (w.heap.size + 1) (by simp) (.int .i64 0) (.int .i64 0) (.int .i64 0) (.int .i64 0) 23)))) ((fun h => Kp.ad50 h w.heap.size rfl (.int .i64 a) (.int .i64 b) (.int .i64 c) (.int .i64 d) (.slice A n k) 26) ⟨Nat.le_refl _, Below.refl w.heap.size w⟩))
  have z := L.out
  have F0 : ∀ o, ((w.alloc (.cells #[.int .i64 a, .int .i64 b, .int .i64 c, .int .i64 d, .slice A n k] 26)).alloc (.cells #[.int .i64 0, .int .i64 0, .int .i64 0, .int .i64 0] 23)).frozen? ⟨w.heap.size + 1, o, none⟩ = false := fun o => by simp
  go_enter Try.func16, Try.ntmps16
  go_wp2_with fail
  refine (C1.out _ L.out.2.2.2.2.2.2.2.2.2.2).mono ?_
  rintro e w1 ⟨rfl, hb1⟩
  have K1 := Lib.hid ((Kp.two hb1 (Kp.two hb1 (Kp.two hb1 (Kp.two hb1 (Kp.one hb1 (Kp.ends hb1)))))) L.out)
  have z1 := K1.out
  have F1 := Kp.soft hb1 (by simp) F0
  have Z1 : w.heap.size + 1 < w1.heap.size := Nat.lt_of_lt_of_le (by simp) hb1.size
  clear hb1 z L F0
  go_wp2_with fail
  refine (has_yes a b c d A n k _ h0 hn).mono ?_
  rintro e w2 ⟨rfl, hb2⟩
  have K2 := Lib.hid ((Kp.two hb2 (Kp.two hb2 (Kp.two hb2 (Kp.two hb2 (Kp.one hb2 (Kp.ends hb2)))))) K1.out)
  have z2 := K2.out
  have F2 := Kp.soft hb2 Z1 F1
  have Z2 : w.heap.size + 1 < w2.heap.size := Nat.lt_of_lt_of_le Z1 hb2.size
  clear hb2 z1 K1 F1 Z1
  go_wp2_with fail
  refine (C2.out _ K2.out.2.2.2.2.2.2.2.2.2.2).mono ?_
  rintro e w3 ⟨rfl, hb3⟩
  have K3 := Lib.hid ((Kp.two hb3 (Kp.two hb3 (Kp.two hb3 (Kp.two hb3 (Kp.one hb3 (Kp.ends hb3)))))) K2.out)
  have z3 := K3.out
  have F3 := Kp.soft hb3 Z2 F2
  have Z3 : w.heap.size + 1 < w3.heap.size := Nat.lt_of_lt_of_le Z2 hb3.size
  clear hb3 z2 K2 F2 Z2
  go_wp2_with fail
  refine bodyPost_ret (v := .tuple #[.agg #[.int .i64 r.x1, .int .i64 r.y1, .int .i64 r.x2, .int .i64 r.y2], .nilIface]) (by simp [results, Try.results16, go_sem, *]) rfl ⟨rfl, ?_⟩
  have B := K3.out.2.2.2.2.2.2.2.2.2.2
  exact ((((B.setCell (by simp) _).setCell (by simp) _).setCell (by simp) _).setCell (by simp) _).alloc (by have := B.size; simp; omega) _
theorem box_any (a b c d : Int) (l : List Pnt) (A : Option Addr) (k : Nat) (w : World) (hA : PtsAt w w.heap.size A l) (hn : l.length ≤ 70) (hg : rgB a b c d l = true) :
    Calls Try.prog 16 #[.agg #[.int .i64 a, .int .i64 b, .int .i64 c, .int .i64 d, .slice A l.length k]] w fun e w' => e = .returned (.tuple #[.agg #[.int .i64 (rgX a b c d l).x1, .int .i64 (rgX a b c d l).y1, .int .i64 (rgX a b c d l).x2, .int .i64 (rgX a b c d l).y2], .nilIface]) ∧ Below w.heap.size w w' := by
  rcases Nat.eq_zero_or_pos l.length with h | h
  · have e : rgX a b c d l = ⟨a, b, c, d⟩ := by unfold rgX; rw [if_pos h]
    rw [e, h]
    rw [rgB_no h] at hg
    exact box_rect a b c d A k w hg
  · have e : rgX a b c d l = ofR l := by unfold rgX; rw [if_neg (by omega)]
    rw [e]
    exact box_poly a b c d l A k w hA h hn hg
set_option maxHeartbeats 1000000 in
theorem refBox_rect (a b c d : Int) (A : Option Addr) (k : Nat) (w : World) :
    Calls Try.prog 21 #[.agg #[.int .i64 a, .int .i64 b, .int .i64 c, .int .i64 d, .slice A 0 k]] w fun e w' => e = .returned (.agg #[.int .i64 a, .int .i64 b, .int .i64 c, .int .i64 d]) ∧ Below w.heap.size w w' := by
  have L := Lib.hid ((Kp.two (Kp.behind _ (.cells #[.int .i64 0, .int .i64 0, .int .i64 0, .int .i64 0] 23)) (Kp.two (Kp.behind _ (.cells #[.int .i64 0, .int .i64 0, .int .i64 0, .int .i64 0] 23)) (Kp.one (Kp.behind _ (.cells #[.int .i64 0, .int .i64 0, .int .i64 0, .int .i64 0] 23)) (fun h => Kp.adq0 h (w.heap.size + 1) (by simp) (.int .i64 0) (.int .i64 0) (.int .i64 0) (.int .i64 0) 23)))) ((fun h => Kp.ad50 h w.heap.size rfl (.int .i64 a) (.int .i64 b) (.int .i64 c) (.int .i64 d) (.slice A 0 k) 26) ⟨Nat.le_refl _, Below.refl w.heap.size w⟩))
  have z := L.out
  go_enter Try.func21, Try.ntmps21
  go_wp2_with fail
  refine bodyPost_ret (v := .agg #[.int .i64 a, .int .i64 b, .int .i64 c, .int .i64 d]) (by simp [results, Try.results21, go_sem, *]) rfl ⟨rfl, ?_⟩
  have B := L.out.2.2.2.2.2.2.2.2.2.2
  first | exact ((((B.setCell (by simp) _).setCell (by simp) _).setCell (by simp) _).setCell (by simp) _) | exact ((Below.refl _ _).alloc (Nat.le_refl _) _).alloc (by simp) _
set_option maxHeartbeats 1000000 in
theorem refBox_poly (a b c d : Int) (l : List Pnt) (A : Option Addr) (k : Nat) (w : World) (hA : PtsAt w w.heap.size A l) (h0 : 0 < l.length) (hn : l.length ≤ 70) :
    Calls Try.prog 21 #[.agg #[.int .i64 a, .int .i64 b, .int .i64 c, .int .i64 d, .slice A l.length k]] w fun e w' => e = .returned (.agg #[.int .i64 (ofR l).x1, .int .i64 (ofR l).y1, .int .i64 (ofR l).x2, .int .i64 (ofR l).y2]) ∧ Below w.heap.size w w' := by
  have C2 := Lib.hid (fun W (h : Below w.heap.size w W) => refOf_any l A k W ((hA.later h).wide h.size) (by omega))
  obtain ⟨r, er⟩ : ∃ r, r = ofR l := ⟨_, rfl⟩
  obtain ⟨ok, eo⟩ : ∃ o, o = ofB l := ⟨_, rfl⟩
  rw [← er, ← eo] at C2
  rw [← er]
  obtain ⟨n, e⟩ : ∃ n, n = l.length := ⟨_, rfl⟩
  rw [← e] at C2 h0 hn ⊢
  clear e hA er eo
  have h2 : ¬ (n : Int) = 0 := by omega
  have L := Lib.hid ((Kp.two (Kp.behind _ (.cells #[.int .i64 0, .int .i64 0, .int .i64 0, .int .i64 0] 23)) (Kp.two (Kp.behind _ (.cells #[.int .i64 0, .int .i64 0, .int .i64 0, .int .i64 0] 23)) (Kp.one (Kp.behind _ (.cells #[.int .i64 0, .int .i64 0, .int .i64 0, .int .i64 0] 23)) (fun h => Kp.adq0 h (w.heap.size + 1) (by simp) (.int .i64 0) (.int .i64 0) (.int .i64 0) (.int .i64 0) 23)))) ((fun h => Kp.ad50 h w.heap.size rfl (.int .i64 a) (.int .i64 b) (.int .i64 c) (.int .i64 d) (.slice A n k) 26) ⟨Nat.le_refl _, Below.refl w.heap.size w⟩))
  have z := L.out
  have F0 : ∀ o, ((w.alloc (.cells #[.int .i64 a, .int .i64 b, .int .i64 c, .int .i64 d, .slice A n k] 26)).alloc (.cells #[.int .i64 0, .int .i64 0, .int .i64 0, .int .i64 0] 23)).frozen? ⟨w.heap.size + 1, o, none⟩ = false := fun o => by simp
  go_enter Try.func21, Try.ntmps21
  go_wp2_with fail
  refine (C2.out _ L.out.2.2.2.2.2.2.2.2.2.2).mono ?_
  rintro e w3 ⟨rfl, hb3⟩
  have K3 := Lib.hid ((Kp.two hb3 (Kp.two hb3 (Kp.two hb3 (Kp.two hb3 (Kp.one hb3 (Kp.ends hb3)))))) L.out)
  have z3 := K3.out
  have F3 := Kp.soft hb3 (by simp) F0
  have Z3 : w.heap.size + 1 < w3.heap.size := Nat.lt_of_lt_of_le (by simp) hb3.size
  clear hb3 z L F0
  go_wp2_with fail
  refine bodyPost_ret (v := .agg #[.int .i64 r.x1, .int .i64 r.y1, .int .i64 r.x2, .int .i64 r.y2]) (by simp [results, Try.results21, go_sem, *]) rfl ⟨rfl, ?_⟩
  have B := K3.out.2.2.2.2.2.2.2.2.2.2
  exact ((((B.setCell (by simp) _).setCell (by simp) _).setCell (by simp) _).setCell (by simp) _).alloc (by have := B.size; simp; omega) _
theorem refBox_any (a b c d : Int) (l : List Pnt) (A : Option Addr) (k : Nat) (w : World) (hA : PtsAt w w.heap.size A l) (hn : l.length ≤ 70) :
    Calls Try.prog 21 #[.agg #[.int .i64 a, .int .i64 b, .int .i64 c, .int .i64 d, .slice A l.length k]] w fun e w' => e = .returned (.agg #[.int .i64 (rgX a b c d l).x1, .int .i64 (rgX a b c d l).y1, .int .i64 (rgX a b c d l).x2, .int .i64 (rgX a b c d l).y2]) ∧ Below w.heap.size w w' := by
  rcases Nat.eq_zero_or_pos l.length with h | h
  · have e : rgX a b c d l = ⟨a, b, c, d⟩ := by unfold rgX; rw [if_pos h]
    rw [e, h]
    exact refBox_rect a b c d A k w
  · have e : rgX a b c d l = ofR l := by unfold rgX; rw [if_neg (by omega)]
    rw [e]
    exact refBox_poly a b c d l A k w hA h hn
end Go.Proofs.Ythakngphffoooaa.Rg
namespace Go.Proofs.Ythakngphffoooaa.Rc
open Go.RowKit Go.Proofs.Ythakngphffoooaa.Pt

end Go.Proofs.Ythakngphffoooaa.Rc
