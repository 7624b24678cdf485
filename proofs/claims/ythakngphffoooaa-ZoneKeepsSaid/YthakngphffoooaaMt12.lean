/-
  Contracts of the document's answers Shift for layer 4. Memory is left as it was.
-/
import Derived.Test.YthakngphffoooaaMt10
import Derived.Test.YthakngphffoooaaMt11
import Derived.Test.YthakngphffoooaaMt08
import Derived.BigQuiet
import Derived.WalkSmall
/-
  Contracts of Safe and Cover of layer 17 (zone) and of the document's Safe and Cover. Memory that was there is left as it was.
-/
namespace Go.Proofs.Ythakngphffoooaa.Zn
open Go.RowKit Go.Proofs.Ythakngphffoooaa.Pt Go.Proofs.Ythakngphffoooaa.Rc Go.Proofs.Ythakngphffoooaa.Pts Go.Proofs.Ythakngphffoooaa.Pl Go.Proofs.Ythakngphffoooaa.Rg Go.Proofs.Ythakngphffoooaa.Mo
set_option linter.unusedVariables false
set_option linter.unusedSimpArgs false
open Go.Proofs.Ythakngphffoooaa.Cv (fa la cbox_no cbox_yes refCover_any)
theorem eql_no (w : World) : (binOp .eql 32 (.iface 37 (.int .i64 1)) .nilIface).run Try.prog w = .ok (.bool false) w := by kernel_rfl
theorem eql_nils (w : World) : (binOp .eql 32 .nilIface .nilIface).run Try.prog w = .ok (.bool true) w := by kernel_rfl
theorem has_any (x1 y1 x2 y2 px py : Int) (w : World) : Calls Try.prog 22 #[.agg #[.int .i64 x1, .int .i64 y1, .int .i64 x2, .int .i64 y2], .agg #[.int .i64 px, .int .i64 py]] w fun e w' => e = .returned (.bool (inB x1 y1 x2 y2 px py)) ∧ Below w.heap.size w w' := by
  go_enter Try.func22, Try.ntmps22
  go_wp2
  all_goals (go_ret; exact ⟨by simp [inB, *] <;> omega, ((Below.refl _ _).alloc (Nat.le_refl _) _).alloc (by simp) _⟩)

set_option maxHeartbeats 2000000 in
set_option maxRecDepth 100000 in
theorem safe_any (a b c d : Int) (l : List Pnt) (A : Option Addr) (k : Nat) (x1 y1 x2 y2 : Int) (v : Pnt) (w : World) (hA : PtsAt w w.heap.size A l) (hn : l.length ≤ 70) :
    Calls Try.prog 9 #[.agg #[.int .i64 a, .int .i64 b, .int .i64 c, .int .i64 d, .slice A l.length k], .agg #[.int .i64 x1, .int .i64 y1, .int .i64 x2, .int .i64 y2], .agg #[.int .i64 v.1, .int .i64 v.2]] w fun e w' => e = .returned (.bool (sfB a b c d l x1 y1 x2 y2 v)) ∧ Below w.heap.size w w' := by
  have C1 := Lib.hid (fun W (h : Below w.heap.size w W) => zof_any a b c d l A k x1 y1 x2 y2 W ((hA.later h).wide h.size) hn)
  have C2 := Lib.hid (fun W => has_any (x1 - (rgX a b c d l).x1) (y1 - (rgX a b c d l).y1) (x2 - (rgX a b c d l).x2) (y2 - (rgX a b c d l).y2) v.1 v.2 W)
  unfold sfB
  obtain ⟨i, ei⟩ : ∃ i, i = inB (x1 - (rgX a b c d l).x1) (y1 - (rgX a b c d l).y1) (x2 - (rgX a b c d l).x2) (y2 - (rgX a b c d l).y2) v.1 v.2 := ⟨_, rfl⟩
  rw [← ei] at C2 ⊢
  clear ei
  obtain ⟨q, eq⟩ : ∃ q, q = zB a b c d l x1 y1 x2 y2 := ⟨_, rfl⟩
  rw [← eq] at C1 ⊢
  clear eq
  obtain ⟨f1, g1⟩ : ∃ z, z = x1 - (rgX a b c d l).x1 := ⟨_, rfl⟩
  rw [← g1] at C1 C2
  clear g1
  obtain ⟨f2, g2⟩ : ∃ z, z = y1 - (rgX a b c d l).y1 := ⟨_, rfl⟩
  rw [← g2] at C1 C2
  clear g2
  obtain ⟨f3, g3⟩ : ∃ z, z = x2 - (rgX a b c d l).x2 := ⟨_, rfl⟩
  rw [← g3] at C1 C2
  clear g3
  obtain ⟨f4, g4⟩ : ∃ z, z = y2 - (rgX a b c d l).y2 := ⟨_, rfl⟩
  rw [← g4] at C1 C2
  clear g4
  obtain ⟨n, e⟩ : ∃ n, n = l.length := ⟨_, rfl⟩
  rw [← e] at C1 ⊢
  clear e
  clear hA hn
  have q1 := eql_no
  have q2 := eql_nils
  cases q
  · have C1 := Lib.hid (fun W h => (C1.out W h).mono (R' := fun e w' => e = .returned (.tuple #[.agg #[.int .i64 0, .int .i64 0, .int .i64 0, .int .i64 0], .iface 37 (.int .i64 1)]) ∧ Below W.heap.size W w') (fun e w' h => h))
    have L0 := (fun h => Kp.ad50 h w.heap.size rfl (.int .i64 a) (.int .i64 b) (.int .i64 c) (.int .i64 d) (.slice A n k) 26) ⟨Nat.le_refl _, Below.refl w.heap.size w⟩
    have L1 := (Kp.two (Kp.behind _ (.cells #[.int .i64 x1, .int .i64 y1, .int .i64 x2, .int .i64 y2] 23)) (Kp.two (Kp.behind _ (.cells #[.int .i64 x1, .int .i64 y1, .int .i64 x2, .int .i64 y2] 23)) (Kp.one (Kp.behind _ (.cells #[.int .i64 x1, .int .i64 y1, .int .i64 x2, .int .i64 y2] 23)) (fun h => Kp.adq0 h (w.heap.size + 1) (by simp) (.int .i64 x1) (.int .i64 y1) (.int .i64 x2) (.int .i64 y2) 23)))) L0
    have L2 := (Kp.two (Kp.behind _ (.cells #[.int .i64 v.1, .int .i64 v.2] 28)) (Kp.two (Kp.behind _ (.cells #[.int .i64 v.1, .int .i64 v.2] 28)) (Kp.two (Kp.behind _ (.cells #[.int .i64 v.1, .int .i64 v.2] 28)) (Kp.two (Kp.behind _ (.cells #[.int .i64 v.1, .int .i64 v.2] 28)) (Kp.one (Kp.behind _ (.cells #[.int .i64 v.1, .int .i64 v.2] 28)) (fun h => Kp.add0 h (w.heap.size + 1 + 1) (by simp) (.int .i64 v.1) (.int .i64 v.2) 28)))))) L1
    have L := Lib.hid L2
    clear L0 L1 L2
    have z := L.out
    go_enter Try.func9, Try.ntmps9
    go_wp2_with fail
    refine (C1.out _ L.out.2.2.2.2.2.2.2.2.2.2.2.2).mono ?_
    rintro e w1 ⟨rfl, hb1⟩
    have K1 := Lib.hid ((Kp.two hb1 (Kp.two hb1 (Kp.two hb1 (Kp.two hb1 (Kp.two hb1 (Kp.one hb1 (Kp.ends hb1))))))) L.out)
    clear hb1 z L
    have M1 := Lib.hid ((Kp.two (Kp.behind _ (.cells #[.int .i64 0, .int .i64 0, .int .i64 0, .int .i64 0] 23)) (Kp.two (Kp.behind _ (.cells #[.int .i64 0, .int .i64 0, .int .i64 0, .int .i64 0] 23)) (Kp.two (Kp.behind _ (.cells #[.int .i64 0, .int .i64 0, .int .i64 0, .int .i64 0] 23)) (Kp.two (Kp.behind _ (.cells #[.int .i64 0, .int .i64 0, .int .i64 0, .int .i64 0] 23)) (Kp.two (Kp.behind _ (.cells #[.int .i64 0, .int .i64 0, .int .i64 0, .int .i64 0] 23)) (Kp.one (Kp.behind _ (.cells #[.int .i64 0, .int .i64 0, .int .i64 0, .int .i64 0] 23)) (fun h => Kp.adq0 h w1.heap.size rfl (.int .i64 0) (.int .i64 0) (.int .i64 0) (.int .i64 0) 23))))))) K1.out)
    have y1 := K1.out
    clear K1
    have z1 := M1.out
    go_wp2_with fail
    go_ret
    exact ⟨by simp, M1.out.2.2.2.2.2.2.2.2.2.2.2.2.2.2.2.2⟩
  · have C1 := Lib.hid (fun W h => (C1.out W h).mono (R' := fun e w' => e = .returned (.tuple #[.agg #[.int .i64 f1, .int .i64 f2, .int .i64 f3, .int .i64 f4], .nilIface]) ∧ Below W.heap.size W w') (fun e w' h => h))
    have L0 := (fun h => Kp.ad50 h w.heap.size rfl (.int .i64 a) (.int .i64 b) (.int .i64 c) (.int .i64 d) (.slice A n k) 26) ⟨Nat.le_refl _, Below.refl w.heap.size w⟩
    have L1 := (Kp.two (Kp.behind _ (.cells #[.int .i64 x1, .int .i64 y1, .int .i64 x2, .int .i64 y2] 23)) (Kp.two (Kp.behind _ (.cells #[.int .i64 x1, .int .i64 y1, .int .i64 x2, .int .i64 y2] 23)) (Kp.one (Kp.behind _ (.cells #[.int .i64 x1, .int .i64 y1, .int .i64 x2, .int .i64 y2] 23)) (fun h => Kp.adq0 h (w.heap.size + 1) (by simp) (.int .i64 x1) (.int .i64 y1) (.int .i64 x2) (.int .i64 y2) 23)))) L0
    have L2 := (Kp.two (Kp.behind _ (.cells #[.int .i64 v.1, .int .i64 v.2] 28)) (Kp.two (Kp.behind _ (.cells #[.int .i64 v.1, .int .i64 v.2] 28)) (Kp.two (Kp.behind _ (.cells #[.int .i64 v.1, .int .i64 v.2] 28)) (Kp.two (Kp.behind _ (.cells #[.int .i64 v.1, .int .i64 v.2] 28)) (Kp.one (Kp.behind _ (.cells #[.int .i64 v.1, .int .i64 v.2] 28)) (fun h => Kp.add0 h (w.heap.size + 1 + 1) (by simp) (.int .i64 v.1) (.int .i64 v.2) 28)))))) L1
    have L := Lib.hid L2
    clear L0 L1 L2
    have z := L.out
    go_enter Try.func9, Try.ntmps9
    go_wp2_with fail
    refine (C1.out _ L.out.2.2.2.2.2.2.2.2.2.2.2.2).mono ?_
    rintro e w1 ⟨rfl, hb1⟩
    have K1 := Lib.hid ((Kp.two hb1 (Kp.two hb1 (Kp.two hb1 (Kp.two hb1 (Kp.two hb1 (Kp.one hb1 (Kp.ends hb1))))))) L.out)
    clear hb1 z L
    have M1 := Lib.hid ((Kp.two (Kp.behind _ (.cells #[.int .i64 f1, .int .i64 f2, .int .i64 f3, .int .i64 f4] 23)) (Kp.two (Kp.behind _ (.cells #[.int .i64 f1, .int .i64 f2, .int .i64 f3, .int .i64 f4] 23)) (Kp.two (Kp.behind _ (.cells #[.int .i64 f1, .int .i64 f2, .int .i64 f3, .int .i64 f4] 23)) (Kp.two (Kp.behind _ (.cells #[.int .i64 f1, .int .i64 f2, .int .i64 f3, .int .i64 f4] 23)) (Kp.two (Kp.behind _ (.cells #[.int .i64 f1, .int .i64 f2, .int .i64 f3, .int .i64 f4] 23)) (Kp.one (Kp.behind _ (.cells #[.int .i64 f1, .int .i64 f2, .int .i64 f3, .int .i64 f4] 23)) (fun h => Kp.adq0 h w1.heap.size rfl (.int .i64 f1) (.int .i64 f2) (.int .i64 f3) (.int .i64 f4) 23))))))) K1.out)
    have y1 := K1.out
    clear K1
    have z1 := M1.out
    go_wp2_with fail
    refine (C2.out _).mono ?_
    rintro e w2 ⟨rfl, hb2⟩
    have K2 := Lib.hid ((Kp.two hb2 (Kp.two hb2 (Kp.two hb2 (Kp.two hb2 (Kp.two hb2 (Kp.two hb2 (Kp.two hb2 (Kp.one hb2 (Kp.ends hb2))))))))) M1.out)
    clear hb2 z1 y1 M1
    have z2 := K2.out
    go_wp2_with fail
    go_ret
    exact ⟨by simp, K2.out.2.2.2.2.2.2.2.2.2.2.2.2.2.2.2.2⟩

set_option maxHeartbeats 2000000 in
set_option maxRecDepth 100000 in
theorem refSafe_any (a b c d : Int) (l : List Pnt) (A : Option Addr) (k : Nat) (x1 y1 x2 y2 : Int) (v : Pnt) (w : World) (hA : PtsAt w w.heap.size A l) (hn : l.length ≤ 70) :
    Calls Try.prog 10 #[.agg #[.int .i64 a, .int .i64 b, .int .i64 c, .int .i64 d, .slice A l.length k], .agg #[.int .i64 x1, .int .i64 y1, .int .i64 x2, .int .i64 y2], .agg #[.int .i64 v.1, .int .i64 v.2]] w fun e w' => e = .returned (.bool (sfB a b c d l x1 y1 x2 y2 v)) ∧ Below w.heap.size w w' := by
  have C1 := Lib.hid (fun W (h : Below w.heap.size w W) => refZone_any a b c d l A k x1 y1 x2 y2 W ((hA.later h).wide h.size) hn)
  have C2 := Lib.hid (fun W => refIn_any (x1 - (rgX a b c d l).x1) (y1 - (rgX a b c d l).y1) (x2 - (rgX a b c d l).x2) (y2 - (rgX a b c d l).y2) v.1 v.2 W)
  unfold sfB
  obtain ⟨i, ei⟩ : ∃ i, i = inB (x1 - (rgX a b c d l).x1) (y1 - (rgX a b c d l).y1) (x2 - (rgX a b c d l).x2) (y2 - (rgX a b c d l).y2) v.1 v.2 := ⟨_, rfl⟩
  rw [← ei] at C2 ⊢
  clear ei
  obtain ⟨q, eq⟩ : ∃ q, q = zB a b c d l x1 y1 x2 y2 := ⟨_, rfl⟩
  rw [← eq] at C1 ⊢
  clear eq
  obtain ⟨f1, g1⟩ : ∃ z, z = x1 - (rgX a b c d l).x1 := ⟨_, rfl⟩
  rw [← g1] at C1 C2
  clear g1
  obtain ⟨f2, g2⟩ : ∃ z, z = y1 - (rgX a b c d l).y1 := ⟨_, rfl⟩
  rw [← g2] at C1 C2
  clear g2
  obtain ⟨f3, g3⟩ : ∃ z, z = x2 - (rgX a b c d l).x2 := ⟨_, rfl⟩
  rw [← g3] at C1 C2
  clear g3
  obtain ⟨f4, g4⟩ : ∃ z, z = y2 - (rgX a b c d l).y2 := ⟨_, rfl⟩
  rw [← g4] at C1 C2
  clear g4
  obtain ⟨n, e⟩ : ∃ n, n = l.length := ⟨_, rfl⟩
  rw [← e] at C1 ⊢
  clear e
  clear hA hn
  cases q
  · have C1 := Lib.hid (fun W h => (C1.out W h).mono (R' := fun e w' => e = .returned (.tuple #[.agg #[.int .i64 0, .int .i64 0, .int .i64 0, .int .i64 0], .bool false]) ∧ Below W.heap.size W w') (fun e w' h => h))
    have L0 := (fun h => Kp.ad50 h w.heap.size rfl (.int .i64 a) (.int .i64 b) (.int .i64 c) (.int .i64 d) (.slice A n k) 26) ⟨Nat.le_refl _, Below.refl w.heap.size w⟩
    have L1 := (Kp.two (Kp.behind _ (.cells #[.int .i64 x1, .int .i64 y1, .int .i64 x2, .int .i64 y2] 23)) (Kp.two (Kp.behind _ (.cells #[.int .i64 x1, .int .i64 y1, .int .i64 x2, .int .i64 y2] 23)) (Kp.one (Kp.behind _ (.cells #[.int .i64 x1, .int .i64 y1, .int .i64 x2, .int .i64 y2] 23)) (fun h => Kp.adq0 h (w.heap.size + 1) (by simp) (.int .i64 x1) (.int .i64 y1) (.int .i64 x2) (.int .i64 y2) 23)))) L0
    have L2 := (Kp.two (Kp.behind _ (.cells #[.int .i64 v.1, .int .i64 v.2] 28)) (Kp.two (Kp.behind _ (.cells #[.int .i64 v.1, .int .i64 v.2] 28)) (Kp.two (Kp.behind _ (.cells #[.int .i64 v.1, .int .i64 v.2] 28)) (Kp.two (Kp.behind _ (.cells #[.int .i64 v.1, .int .i64 v.2] 28)) (Kp.one (Kp.behind _ (.cells #[.int .i64 v.1, .int .i64 v.2] 28)) (fun h => Kp.add0 h (w.heap.size + 1 + 1) (by simp) (.int .i64 v.1) (.int .i64 v.2) 28)))))) L1
    have L := Lib.hid L2
    clear L0 L1 L2
    have z := L.out
    go_enter Try.func10, Try.ntmps10
    go_wp2_with fail
    refine (C1.out _ L.out.2.2.2.2.2.2.2.2.2.2.2.2).mono ?_
    rintro e w1 ⟨rfl, hb1⟩
    have K1 := Lib.hid ((Kp.two hb1 (Kp.two hb1 (Kp.two hb1 (Kp.two hb1 (Kp.two hb1 (Kp.one hb1 (Kp.ends hb1))))))) L.out)
    clear hb1 z L
    have M1 := Lib.hid ((Kp.two (Kp.behind _ (.cells #[.int .i64 0, .int .i64 0, .int .i64 0, .int .i64 0] 23)) (Kp.two (Kp.behind _ (.cells #[.int .i64 0, .int .i64 0, .int .i64 0, .int .i64 0] 23)) (Kp.two (Kp.behind _ (.cells #[.int .i64 0, .int .i64 0, .int .i64 0, .int .i64 0] 23)) (Kp.two (Kp.behind _ (.cells #[.int .i64 0, .int .i64 0, .int .i64 0, .int .i64 0] 23)) (Kp.two (Kp.behind _ (.cells #[.int .i64 0, .int .i64 0, .int .i64 0, .int .i64 0] 23)) (Kp.one (Kp.behind _ (.cells #[.int .i64 0, .int .i64 0, .int .i64 0, .int .i64 0] 23)) (fun h => Kp.adq0 h w1.heap.size rfl (.int .i64 0) (.int .i64 0) (.int .i64 0) (.int .i64 0) 23))))))) K1.out)
    have y1 := K1.out
    clear K1
    have z1 := M1.out
    go_wp2_with fail
    go_ret
    exact ⟨by simp, M1.out.2.2.2.2.2.2.2.2.2.2.2.2.2.2.2.2⟩
  · have C1 := Lib.hid (fun W h => (C1.out W h).mono (R' := fun e w' => e = .returned (.tuple #[.agg #[.int .i64 f1, .int .i64 f2, .int .i64 f3, .int .i64 f4], .bool true]) ∧ Below W.heap.size W w') (fun e w' h => h))
    have L0 := (fun h => Kp.ad50 h w.heap.size rfl (.int .i64 a) (.int .i64 b) (.int .i64 c) (.int .i64 d) (.slice A n k) 26) ⟨Nat.le_refl _, Below.refl w.heap.size w⟩
    have L1 := (Kp.two (Kp.behind _ (.cells #[.int .i64 x1, .int .i64 y1, .int .i64 x2, .int .i64 y2] 23)) (Kp.two (Kp.behind _ (.cells #[.int .i64 x1, .int .i64 y1, .int .i64 x2, .int .i64 y2] 23)) (Kp.one (Kp.behind _ (.cells #[.int .i64 x1, .int .i64 y1, .int .i64 x2, .int .i64 y2] 23)) (fun h => Kp.adq0 h (w.heap.size + 1) (by simp) (.int .i64 x1) (.int .i64 y1) (.int .i64 x2) (.int .i64 y2) 23)))) L0
    have L2 := (Kp.two (Kp.behind _ (.cells #[.int .i64 v.1, .int .i64 v.2] 28)) (Kp.two (Kp.behind _ (.cells #[.int .i64 v.1, .int .i64 v.2] 28)) (Kp.two (Kp.behind _ (.cells #[.int .i64 v.1, .int .i64 v.2] 28)) (Kp.two (Kp.behind _ (.cells #[.int .i64 v.1, .int .i64 v.2] 28)) (Kp.one (Kp.behind _ (.cells #[.int .i64 v.1, .int .i64 v.2] 28)) (fun h => Kp.add0 h (w.heap.size + 1 + 1) (by simp) (.int .i64 v.1) (.int .i64 v.2) 28)))))) L1
    have L := Lib.hid L2
    clear L0 L1 L2
    have z := L.out
    go_enter Try.func10, Try.ntmps10
    go_wp2_with fail
    refine (C1.out _ L.out.2.2.2.2.2.2.2.2.2.2.2.2).mono ?_
    rintro e w1 ⟨rfl, hb1⟩
    have K1 := Lib.hid ((Kp.two hb1 (Kp.two hb1 (Kp.two hb1 (Kp.two hb1 (Kp.two hb1 (Kp.one hb1 (Kp.ends hb1))))))) L.out)
    clear hb1 z L
    have M1 := Lib.hid ((Kp.two (Kp.behind _ (.cells #[.int .i64 f1, .int .i64 f2, .int .i64 f3, .int .i64 f4] 23)) (Kp.two (Kp.behind _ (.cells #[.int .i64 f1, .int .i64 f2, .int .i64 f3, .int .i64 f4] 23)) (Kp.two (Kp.behind _ (.cells #[.int .i64 f1, .int .i64 f2, .int .i64 f3, .int .i64 f4] 23)) (Kp.two (Kp.behind _ (.cells #[.int .i64 f1, .int .i64 f2, .int .i64 f3, .int .i64 f4] 23)) (Kp.two (Kp.behind _ (.cells #[.int .i64 f1, .int .i64 f2, .int .i64 f3, .int .i64 f4] 23)) (Kp.one (Kp.behind _ (.cells #[.int .i64 f1, .int .i64 f2, .int .i64 f3, .int .i64 f4] 23)) (fun h => Kp.adq0 h w1.heap.size rfl (.int .i64 f1) (.int .i64 f2) (.int .i64 f3) (.int .i64 f4) 23))))))) K1.out)
    have y1 := K1.out
    clear K1
    have z1 := M1.out
    go_wp2_with fail
    refine (C2.out _).mono ?_
    rintro e w2 ⟨rfl, hb2⟩
    have K2 := Lib.hid ((Kp.two hb2 (Kp.two hb2 (Kp.two hb2 (Kp.two hb2 (Kp.two hb2 (Kp.two hb2 (Kp.two hb2 (Kp.one hb2 (Kp.ends hb2))))))))) M1.out)
    clear hb2 z1 y1 M1
    have z2 := K2.out
    go_wp2_with fail
    go_ret
    exact ⟨by simp, K2.out.2.2.2.2.2.2.2.2.2.2.2.2.2.2.2.2⟩

set_option maxHeartbeats 2000000 in
set_option maxRecDepth 100000 in
theorem cover_bad (s : Int) (a b c d : Int) (l : List Pnt) (A : Option Addr) (k : Nat) (w : World) (hA : PtsAt w w.heap.size A l) (hn : l.length ≤ 70) (hg : rgB a b c d l = false) :
    Calls Try.prog 11 #[.int .i64 s, .agg #[.int .i64 a, .int .i64 b, .int .i64 c, .int .i64 d, .slice A l.length k]] w fun e w' => e = .returned (.tuple #[.agg #[.int .i64 0, .int .i64 0, .int .i64 0, .int .i64 0], .iface 37 (.int .i64 1)]) ∧ Below w.heap.size w w' := by
  have C1 := Lib.hid (fun W (h : Below w.heap.size w W) => box_bad a b c d l A k W ((hA.later h).wide h.size) hn hg)
  obtain ⟨n, e⟩ : ∃ n, n = l.length := ⟨_, rfl⟩
  rw [← e] at C1 ⊢
  clear e
  clear hA hn hg
  have q1 := neq_arg
  have L0 := (fun h => Kp.ad50 h w.heap.size rfl (.int .i64 a) (.int .i64 b) (.int .i64 c) (.int .i64 d) (.slice A n k) 26) ⟨Nat.le_refl _, Below.refl w.heap.size w⟩
  have L1 := (Kp.two (Kp.behind _ (.cells #[.int .i64 0, .int .i64 0, .int .i64 0, .int .i64 0] 23)) (Kp.two (Kp.behind _ (.cells #[.int .i64 0, .int .i64 0, .int .i64 0, .int .i64 0] 23)) (Kp.one (Kp.behind _ (.cells #[.int .i64 0, .int .i64 0, .int .i64 0, .int .i64 0] 23)) (fun h => Kp.adq0 h (w.heap.size + 1) (by simp) (.int .i64 0) (.int .i64 0) (.int .i64 0) (.int .i64 0) 23)))) L0
  have L := Lib.hid L1
  clear L0 L1
  have z := L.out
  have F0 : ∀ o, ((w.alloc (.cells #[.int .i64 a, .int .i64 b, .int .i64 c, .int .i64 d, .slice A n k] 26)).alloc (.cells #[.int .i64 0, .int .i64 0, .int .i64 0, .int .i64 0] 23)).frozen? ⟨w.heap.size + 1, o, none⟩ = false := Kp.newsoft _ _ (by simp) _ _
  have Z0 : w.heap.size + 1 < ((w.alloc (.cells #[.int .i64 a, .int .i64 b, .int .i64 c, .int .i64 d, .slice A n k] 26)).alloc (.cells #[.int .i64 0, .int .i64 0, .int .i64 0, .int .i64 0] 23)).heap.size := by simp
  go_enter Try.func11, Try.ntmps11
  go_wp2_with fail
  refine (C1.out _ L.out.2.2.2.2.2.2.2.2.2.2).mono ?_
  rintro e w1 ⟨rfl, hb1⟩
  have K1 := Lib.hid ((Kp.two hb1 (Kp.two hb1 (Kp.two hb1 (Kp.two hb1 (Kp.one hb1 (Kp.ends hb1)))))) L.out)
  have z1 := K1.out
  have F1 := Kp.soft hb1 Z0 F0
  have Z1 : w.heap.size + 1 < w1.heap.size := Nat.lt_of_lt_of_le Z0 hb1.size
  clear hb1 z L F0 Z0
  have M1 := Lib.hid ((Kp.two (Kp.behind _ (.cells #[.int .i64 0, .int .i64 0, .int .i64 0, .int .i64 0] 23)) (Kp.two (Kp.behind _ (.cells #[.int .i64 0, .int .i64 0, .int .i64 0, .int .i64 0] 23)) (Kp.two (Kp.behind _ (.cells #[.int .i64 0, .int .i64 0, .int .i64 0, .int .i64 0] 23)) (Kp.two (Kp.behind _ (.cells #[.int .i64 0, .int .i64 0, .int .i64 0, .int .i64 0] 23)) (Kp.one (Kp.behind _ (.cells #[.int .i64 0, .int .i64 0, .int .i64 0, .int .i64 0] 23)) (fun h => Kp.adq0 h w1.heap.size rfl (.int .i64 0) (.int .i64 0) (.int .i64 0) (.int .i64 0) 23)))))) K1.out)
  have u1 := M1.out
  have G1 := fa (.cells #[.int .i64 0, .int .i64 0, .int .i64 0, .int .i64 0] 23) Z1 F1
  have Y1 := la (.cells #[.int .i64 0, .int .i64 0, .int .i64 0, .int .i64 0] 23) Z1
  go_wp2_with fail
  refine bodyPost_ret (v := .tuple #[.agg #[.int .i64 0, .int .i64 0, .int .i64 0, .int .i64 0], .iface 37 (.int .i64 1)]) (by simp [results, Try.results11, go_sem, *]) rfl ⟨rfl, ?_⟩
  have B := K1.out.2.2.2.2.2.2.2.2.2.2
  exact ((((B.setCell (by simp; try omega) _).setCell (by simp; try omega) _).setCell (by simp; try omega) _).setCell (by simp; try omega) _).alloc (by have := B.size; simp; omega) _

set_option maxHeartbeats 2000000 in
set_option maxRecDepth 100000 in
theorem cover_no (s : Int) (a b c d : Int) (l : List Pnt) (A : Option Addr) (k : Nat) (w : World) (hA : PtsAt w w.heap.size A l) (hn : l.length ≤ 70) (hg : rgB a b c d l = true) (hs : shB s = false) :
    Calls Try.prog 11 #[.int .i64 s, .agg #[.int .i64 a, .int .i64 b, .int .i64 c, .int .i64 d, .slice A l.length k]] w fun e w' => e = .returned (.tuple #[.agg #[.int .i64 0, .int .i64 0, .int .i64 0, .int .i64 0], .iface 37 (.int .i64 1)]) ∧ Below w.heap.size w w' := by
  have C1 := Lib.hid (fun W (h : Below w.heap.size w W) => box_any a b c d l A k W ((hA.later h).wide h.size) hn hg)
  have C2 := Lib.hid (fun W => cbox_no s (rgX a b c d l).x1 (rgX a b c d l).y1 (rgX a b c d l).x2 (rgX a b c d l).y2 W (by rw [hs]; rfl))
  obtain ⟨r, er⟩ : ∃ r, r = (rgX a b c d l) := ⟨_, rfl⟩
  rw [← er] at C1 C2
  clear er
  obtain ⟨n, e⟩ : ∃ n, n = l.length := ⟨_, rfl⟩
  rw [← e] at C1 ⊢
  clear e
  clear hA hn hg hs
  have q1 := neq_nils
  have L0 := (fun h => Kp.ad50 h w.heap.size rfl (.int .i64 a) (.int .i64 b) (.int .i64 c) (.int .i64 d) (.slice A n k) 26) ⟨Nat.le_refl _, Below.refl w.heap.size w⟩
  have L1 := (Kp.two (Kp.behind _ (.cells #[.int .i64 0, .int .i64 0, .int .i64 0, .int .i64 0] 23)) (Kp.two (Kp.behind _ (.cells #[.int .i64 0, .int .i64 0, .int .i64 0, .int .i64 0] 23)) (Kp.one (Kp.behind _ (.cells #[.int .i64 0, .int .i64 0, .int .i64 0, .int .i64 0] 23)) (fun h => Kp.adq0 h (w.heap.size + 1) (by simp) (.int .i64 0) (.int .i64 0) (.int .i64 0) (.int .i64 0) 23)))) L0
  have L := Lib.hid L1
  clear L0 L1
  have z := L.out
  have F0 : ∀ o, ((w.alloc (.cells #[.int .i64 a, .int .i64 b, .int .i64 c, .int .i64 d, .slice A n k] 26)).alloc (.cells #[.int .i64 0, .int .i64 0, .int .i64 0, .int .i64 0] 23)).frozen? ⟨w.heap.size + 1, o, none⟩ = false := Kp.newsoft _ _ (by simp) _ _
  have Z0 : w.heap.size + 1 < ((w.alloc (.cells #[.int .i64 a, .int .i64 b, .int .i64 c, .int .i64 d, .slice A n k] 26)).alloc (.cells #[.int .i64 0, .int .i64 0, .int .i64 0, .int .i64 0] 23)).heap.size := by simp
  go_enter Try.func11, Try.ntmps11
  go_wp2_with fail
  refine (C1.out _ L.out.2.2.2.2.2.2.2.2.2.2).mono ?_
  rintro e w1 ⟨rfl, hb1⟩
  have K1 := Lib.hid ((Kp.two hb1 (Kp.two hb1 (Kp.two hb1 (Kp.two hb1 (Kp.one hb1 (Kp.ends hb1)))))) L.out)
  have z1 := K1.out
  have F1 := Kp.soft hb1 Z0 F0
  have Z1 : w.heap.size + 1 < w1.heap.size := Nat.lt_of_lt_of_le Z0 hb1.size
  clear hb1 z L F0 Z0
  have M1 := Lib.hid ((Kp.two (Kp.behind _ (.cells #[.int .i64 r.x1, .int .i64 r.y1, .int .i64 r.x2, .int .i64 r.y2] 23)) (Kp.two (Kp.behind _ (.cells #[.int .i64 r.x1, .int .i64 r.y1, .int .i64 r.x2, .int .i64 r.y2] 23)) (Kp.two (Kp.behind _ (.cells #[.int .i64 r.x1, .int .i64 r.y1, .int .i64 r.x2, .int .i64 r.y2] 23)) (Kp.two (Kp.behind _ (.cells #[.int .i64 r.x1, .int .i64 r.y1, .int .i64 r.x2, .int .i64 r.y2] 23)) (Kp.one (Kp.behind _ (.cells #[.int .i64 r.x1, .int .i64 r.y1, .int .i64 r.x2, .int .i64 r.y2] 23)) (fun h => Kp.adq0 h w1.heap.size rfl (.int .i64 r.x1) (.int .i64 r.y1) (.int .i64 r.x2) (.int .i64 r.y2) 23)))))) K1.out)
  have u1 := M1.out
  have G1 := fa (.cells #[.int .i64 r.x1, .int .i64 r.y1, .int .i64 r.x2, .int .i64 r.y2] 23) Z1 F1
  have Y1 := la (.cells #[.int .i64 r.x1, .int .i64 r.y1, .int .i64 r.x2, .int .i64 r.y2] 23) Z1
  go_wp2_with fail
  refine (C2.out _).mono ?_
  rintro e w2 ⟨rfl, hb2⟩
  have K2 := Lib.hid ((Kp.two hb2 (Kp.two hb2 (Kp.two hb2 (Kp.two hb2 (Kp.two hb2 (Kp.two hb2 (Kp.one hb2 (Kp.ends hb2)))))))) M1.out)
  have z2 := K2.out
  have F2 := Kp.soft hb2 Y1 G1
  have Z2 : w.heap.size + 1 < w2.heap.size := Nat.lt_of_lt_of_le Y1 hb2.size
  clear hb2 z1 u1 K1 F1 Z1 M1 G1 Y1
  go_wp2_with fail
  refine bodyPost_ret (v := .tuple #[.agg #[.int .i64 0, .int .i64 0, .int .i64 0, .int .i64 0], .iface 37 (.int .i64 1)]) (by simp [results, Try.results11, go_sem, *]) rfl ⟨rfl, ?_⟩
  have B := K2.out.2.2.2.2.2.2.2.2.2.2.2.2.2.2
  exact ((((B.setCell (by simp; try omega) _).setCell (by simp; try omega) _).setCell (by simp; try omega) _).setCell (by simp; try omega) _)

set_option maxHeartbeats 2000000 in
set_option maxRecDepth 100000 in
theorem cover_yes (s : Nat) (a b c d : Int) (l : List Pnt) (A : Option Addr) (k : Nat) (w : World) (hA : PtsAt w w.heap.size A l) (hn : l.length ≤ 70) (hg : rgB a b c d l = true) (h1 : 24 ≤ s) (h2 : s ≤ 31) :
    Calls Try.prog 11 #[.int .i64 s, .agg #[.int .i64 a, .int .i64 b, .int .i64 c, .int .i64 d, .slice A l.length k]] w fun e w' => e = .returned (.tuple #[.agg #[.int .i64 (cvX s (rgX a b c d l)).x1, .int .i64 (cvX s (rgX a b c d l)).y1, .int .i64 (cvX s (rgX a b c d l)).x2, .int .i64 (cvX s (rgX a b c d l)).y2], .nilIface]) ∧ Below w.heap.size w w' := by
  have C1 := Lib.hid (fun W (h : Below w.heap.size w W) => box_any a b c d l A k W ((hA.later h).wide h.size) hn hg)
  have C2 : Hid (∀ W, Calls Try.prog 24 #[.int .i64 s, .agg #[.int .i64 (rgX a b c d l).x1, .int .i64 (rgX a b c d l).y1, .int .i64 (rgX a b c d l).x2, .int .i64 (rgX a b c d l).y2]] W fun e w' => e = .returned (.tuple #[.agg #[.int .i64 (cvX s (rgX a b c d l)).x1, .int .i64 (cvX s (rgX a b c d l)).y1, .int .i64 (cvX s (rgX a b c d l)).x2, .int .i64 (cvX s (rgX a b c d l)).y2], .nilIface]) ∧ Below W.heap.size W w') := Lib.hid (fun W => cbox_yes s (rgX a b c d l).x1 (rgX a b c d l).y1 (rgX a b c d l).x2 (rgX a b c d l).y2 W h1 h2 (rgX_may hg))
  obtain ⟨y, ey⟩ : ∃ y, y = cvX s (rgX a b c d l) := ⟨_, rfl⟩
  rw [← ey] at C2 ⊢
  clear ey
  obtain ⟨r, er⟩ : ∃ r, r = (rgX a b c d l) := ⟨_, rfl⟩
  rw [← er] at C1 C2
  clear er
  obtain ⟨n, e⟩ : ∃ n, n = l.length := ⟨_, rfl⟩
  rw [← e] at C1 ⊢
  clear e
  clear hA hn hg h1 h2
  have q1 := neq_nils
  have L0 := (fun h => Kp.ad50 h w.heap.size rfl (.int .i64 a) (.int .i64 b) (.int .i64 c) (.int .i64 d) (.slice A n k) 26) ⟨Nat.le_refl _, Below.refl w.heap.size w⟩
  have L1 := (Kp.two (Kp.behind _ (.cells #[.int .i64 0, .int .i64 0, .int .i64 0, .int .i64 0] 23)) (Kp.two (Kp.behind _ (.cells #[.int .i64 0, .int .i64 0, .int .i64 0, .int .i64 0] 23)) (Kp.one (Kp.behind _ (.cells #[.int .i64 0, .int .i64 0, .int .i64 0, .int .i64 0] 23)) (fun h => Kp.adq0 h (w.heap.size + 1) (by simp) (.int .i64 0) (.int .i64 0) (.int .i64 0) (.int .i64 0) 23)))) L0
  have L := Lib.hid L1
  clear L0 L1
  have z := L.out
  have F0 : ∀ o, ((w.alloc (.cells #[.int .i64 a, .int .i64 b, .int .i64 c, .int .i64 d, .slice A n k] 26)).alloc (.cells #[.int .i64 0, .int .i64 0, .int .i64 0, .int .i64 0] 23)).frozen? ⟨w.heap.size + 1, o, none⟩ = false := Kp.newsoft _ _ (by simp) _ _
  have Z0 : w.heap.size + 1 < ((w.alloc (.cells #[.int .i64 a, .int .i64 b, .int .i64 c, .int .i64 d, .slice A n k] 26)).alloc (.cells #[.int .i64 0, .int .i64 0, .int .i64 0, .int .i64 0] 23)).heap.size := by simp
  go_enter Try.func11, Try.ntmps11
  go_wp2_with fail
  refine (C1.out _ L.out.2.2.2.2.2.2.2.2.2.2).mono ?_
  rintro e w1 ⟨rfl, hb1⟩
  have K1 := Lib.hid ((Kp.two hb1 (Kp.two hb1 (Kp.two hb1 (Kp.two hb1 (Kp.one hb1 (Kp.ends hb1)))))) L.out)
  have z1 := K1.out
  have F1 := Kp.soft hb1 Z0 F0
  have Z1 : w.heap.size + 1 < w1.heap.size := Nat.lt_of_lt_of_le Z0 hb1.size
  clear hb1 z L F0 Z0
  have M1 := Lib.hid ((Kp.two (Kp.behind _ (.cells #[.int .i64 r.x1, .int .i64 r.y1, .int .i64 r.x2, .int .i64 r.y2] 23)) (Kp.two (Kp.behind _ (.cells #[.int .i64 r.x1, .int .i64 r.y1, .int .i64 r.x2, .int .i64 r.y2] 23)) (Kp.two (Kp.behind _ (.cells #[.int .i64 r.x1, .int .i64 r.y1, .int .i64 r.x2, .int .i64 r.y2] 23)) (Kp.two (Kp.behind _ (.cells #[.int .i64 r.x1, .int .i64 r.y1, .int .i64 r.x2, .int .i64 r.y2] 23)) (Kp.one (Kp.behind _ (.cells #[.int .i64 r.x1, .int .i64 r.y1, .int .i64 r.x2, .int .i64 r.y2] 23)) (fun h => Kp.adq0 h w1.heap.size rfl (.int .i64 r.x1) (.int .i64 r.y1) (.int .i64 r.x2) (.int .i64 r.y2) 23)))))) K1.out)
  have u1 := M1.out
  have G1 := fa (.cells #[.int .i64 r.x1, .int .i64 r.y1, .int .i64 r.x2, .int .i64 r.y2] 23) Z1 F1
  have Y1 := la (.cells #[.int .i64 r.x1, .int .i64 r.y1, .int .i64 r.x2, .int .i64 r.y2] 23) Z1
  go_wp2_with fail
  refine (C2.out _).mono ?_
  rintro e w2 ⟨rfl, hb2⟩
  have K2 := Lib.hid ((Kp.two hb2 (Kp.two hb2 (Kp.two hb2 (Kp.two hb2 (Kp.two hb2 (Kp.two hb2 (Kp.one hb2 (Kp.ends hb2)))))))) M1.out)
  have z2 := K2.out
  have F2 := Kp.soft hb2 Y1 G1
  have Z2 : w.heap.size + 1 < w2.heap.size := Nat.lt_of_lt_of_le Y1 hb2.size
  clear hb2 z1 u1 K1 F1 Z1 M1 G1 Y1
  go_wp2_with fail
  refine bodyPost_ret (v := .tuple #[.agg #[.int .i64 y.x1, .int .i64 y.y1, .int .i64 y.x2, .int .i64 y.y2], .nilIface]) (by simp [results, Try.results11, go_sem, *]) rfl ⟨rfl, ?_⟩
  have B := K2.out.2.2.2.2.2.2.2.2.2.2.2.2.2.2
  exact ((((B.setCell (by simp; try omega) _).setCell (by simp; try omega) _).setCell (by simp; try omega) _).setCell (by simp; try omega) _)

set_option maxHeartbeats 2000000 in
set_option maxRecDepth 100000 in
theorem refZCover_any (s : Nat) (a b c d : Int) (l : List Pnt) (A : Option Addr) (k : Nat) (w : World) (hA : PtsAt w w.heap.size A l) (hn : l.length ≤ 70) (hg : rgB a b c d l = true) (h1 : 24 ≤ s) (h2 : s ≤ 31) :
    Calls Try.prog 14 #[.int .i64 s, .agg #[.int .i64 a, .int .i64 b, .int .i64 c, .int .i64 d, .slice A l.length k]] w fun e w' => e = .returned (.agg #[.int .i64 (cvX s (rgX a b c d l)).x1, .int .i64 (cvX s (rgX a b c d l)).y1, .int .i64 (cvX s (rgX a b c d l)).x2, .int .i64 (cvX s (rgX a b c d l)).y2]) ∧ Below w.heap.size w w' := by
  have C1 := Lib.hid (fun W (h : Below w.heap.size w W) => refBox_any a b c d l A k W ((hA.later h).wide h.size) hn)
  have C2 : Hid (∀ W, Calls Try.prog 26 #[.int .i64 s, .agg #[.int .i64 (rgX a b c d l).x1, .int .i64 (rgX a b c d l).y1, .int .i64 (rgX a b c d l).x2, .int .i64 (rgX a b c d l).y2]] W fun e w' => e = .returned (.agg #[.int .i64 (cvX s (rgX a b c d l)).x1, .int .i64 (cvX s (rgX a b c d l)).y1, .int .i64 (cvX s (rgX a b c d l)).x2, .int .i64 (cvX s (rgX a b c d l)).y2]) ∧ Below W.heap.size W w') := Lib.hid (fun W => refCover_any s (rgX a b c d l).x1 (rgX a b c d l).y1 (rgX a b c d l).x2 (rgX a b c d l).y2 W h1 h2 (rgX_may hg))
  obtain ⟨y, ey⟩ : ∃ y, y = cvX s (rgX a b c d l) := ⟨_, rfl⟩
  rw [← ey] at C2 ⊢
  clear ey
  obtain ⟨r, er⟩ : ∃ r, r = (rgX a b c d l) := ⟨_, rfl⟩
  rw [← er] at C1 C2
  clear er
  obtain ⟨n, e⟩ : ∃ n, n = l.length := ⟨_, rfl⟩
  rw [← e] at C1 ⊢
  clear e
  clear hA hn hg h1 h2
  have L0 := (fun h => Kp.ad50 h w.heap.size rfl (.int .i64 a) (.int .i64 b) (.int .i64 c) (.int .i64 d) (.slice A n k) 26) ⟨Nat.le_refl _, Below.refl w.heap.size w⟩
  have L1 := (Kp.two (Kp.behind _ (.cells #[.int .i64 0, .int .i64 0, .int .i64 0, .int .i64 0] 23)) (Kp.two (Kp.behind _ (.cells #[.int .i64 0, .int .i64 0, .int .i64 0, .int .i64 0] 23)) (Kp.one (Kp.behind _ (.cells #[.int .i64 0, .int .i64 0, .int .i64 0, .int .i64 0] 23)) (fun h => Kp.adq0 h (w.heap.size + 1) (by simp) (.int .i64 0) (.int .i64 0) (.int .i64 0) (.int .i64 0) 23)))) L0
  have L := Lib.hid L1
  clear L0 L1
  have z := L.out
  have F0 : ∀ o, ((w.alloc (.cells #[.int .i64 a, .int .i64 b, .int .i64 c, .int .i64 d, .slice A n k] 26)).alloc (.cells #[.int .i64 0, .int .i64 0, .int .i64 0, .int .i64 0] 23)).frozen? ⟨w.heap.size + 1, o, none⟩ = false := Kp.newsoft _ _ (by simp) _ _
  have Z0 : w.heap.size + 1 < ((w.alloc (.cells #[.int .i64 a, .int .i64 b, .int .i64 c, .int .i64 d, .slice A n k] 26)).alloc (.cells #[.int .i64 0, .int .i64 0, .int .i64 0, .int .i64 0] 23)).heap.size := by simp
  go_enter Try.func14, Try.ntmps14
  go_wp2_with fail
  refine (C1.out _ L.out.2.2.2.2.2.2.2.2.2.2).mono ?_
  rintro e w1 ⟨rfl, hb1⟩
  have K1 := Lib.hid ((Kp.two hb1 (Kp.two hb1 (Kp.two hb1 (Kp.two hb1 (Kp.one hb1 (Kp.ends hb1)))))) L.out)
  have z1 := K1.out
  have F1 := Kp.soft hb1 Z0 F0
  have Z1 : w.heap.size + 1 < w1.heap.size := Nat.lt_of_lt_of_le Z0 hb1.size
  clear hb1 z L F0 Z0
  go_wp2_with fail
  refine (C2.out _).mono ?_
  rintro e w2 ⟨rfl, hb2⟩
  have K2 := Lib.hid ((Kp.two hb2 (Kp.two hb2 (Kp.two hb2 (Kp.two hb2 (Kp.one hb2 (Kp.ends hb2)))))) K1.out)
  have z2 := K2.out
  have F2 := Kp.soft hb2 Z1 F1
  have Z2 : w.heap.size + 1 < w2.heap.size := Nat.lt_of_lt_of_le Z1 hb2.size
  clear hb2 z1 K1 F1 Z1
  go_wp2_with fail
  refine bodyPost_ret (v := .agg #[.int .i64 y.x1, .int .i64 y.y1, .int .i64 y.x2, .int .i64 y.y2]) (by simp [results, Try.results14, go_sem, *]) rfl ⟨rfl, ?_⟩
  have B := K2.out.2.2.2.2.2.2.2.2.2.2
  exact ((((B.setCell (by simp; try omega) _).setCell (by simp; try omega) _).setCell (by simp; try omega) _).setCell (by simp; try omega) _)
end Go.Proofs.Ythakngphffoooaa.Zn
/-
  Contracts of slices.Equal of points, of Same of layer 16 (region), and of the document's Regions. Memory that was there is left as it was.
-/
namespace Go.Proofs.Ythakngphffoooaa.Rg
open Go.RowKit Go.Proofs.Ythakngphffoooaa.Pt Go.Proofs.Ythakngphffoooaa.Rc Go.Proofs.Ythakngphffoooaa.Pts Go.Proofs.Ythakngphffoooaa.Pl
set_option linter.unusedVariables false

theorem neq_pt (x y x2 y2 : Int) (w : World) : (binOp .neq 28 (.agg #[.int .i64 x, .int .i64 y]) (.agg #[.int .i64 x2, .int .i64 y2])).run Try.prog w = .ok (.bool (!(x == x2 && y == y2))) w := by
  simp [go_sem]
  by_cases h1 : x = x2 <;> by_cases h2 : y = y2 <;> simp [h1, h2]
theorem neq_rect (a b c d a2 b2 c2 d2 : Int) (w : World) : (binOp .neq 23 (.agg #[.int .i64 a, .int .i64 b, .int .i64 c, .int .i64 d]) (.agg #[.int .i64 a2, .int .i64 b2, .int .i64 c2, .int .i64 d2])).run Try.prog w = .ok (.bool (!eq4 a b c d a2 b2 c2 d2)) w := by
  simp [go_sem, eq4]
  by_cases h1 : a = a2 <;> by_cases h2 : b = b2 <;> by_cases h3 : c = c2 <;> by_cases h4 : d = d2 <;> simp [h1, h2, h3, h4]
theorem pt_same {p q : Pnt} (h : (p.1 == q.1 && p.2 == q.2) = true) : p = q := by
  simp only [Bool.and_eq_true, beq_iff_eq] at h
  exact Prod.ext h.1 h.2
theorem pt_other {p q : Pnt} (h : (p.1 == q.1 && p.2 == q.2) = false) : p ≠ q := by
  rintro rfl
  simp at h
theorem lists_other {l m : List Pnt} {k : Nat} (h1 : k < l.length) (h2 : k < m.length) (h : l[k] ≠ m[k]) : l ≠ m := by
  rintro rfl
  exact h rfl
def EqR (l m : List Pnt) (w : World) (vi : Value) (wr : World) : Prop :=
  ∃ k : Nat, k ≤ l.length ∧ vi = .int .i64 k ∧ Hid (∀ (i : Nat) (h1 : i < l.length) (h2 : i < m.length), i < k → l[i] = m[i]) ∧ Below w.heap.size w wr
theorem eq_more {l m : List Pnt} {k : Nat} (hk : k < l.length) (hk2 : k < m.length) (h : ∀ (i : Nat) (h1 : i < l.length) (h2 : i < m.length), i < k → l[i] = m[i]) (hn : l[k] = m[k]) :
    ∀ (i : Nat) (h1 : i < l.length) (h2 : i < m.length), i < k + 1 → l[i] = m[i] := by
  intro i h1 h2 hi
  by_cases e : i = k
  · subst e; exact hn
  · exact h i h1 h2 (by omega)
theorem eq_all {l m : List Pnt} (hl : l.length = m.length) (h : ∀ (i : Nat) (h1 : i < l.length) (h2 : i < m.length), i < l.length → l[i] = m[i]) : l = m :=
  List.ext_getElem hl fun i h1 h2 => h i h1 h2 h1

def RgR (l m : List Pnt) (v : World) (vi : Value) (wr : World) : Prop :=
  ∃ k : Nat, k ≤ l.length ∧ vi = .int .i64 k ∧ Hid (∀ (i : Nat) (h1 : i < l.length) (h2 : i < m.length), i < k → l[i] = m[i]) ∧ Below v.heap.size v wr
end Go.Proofs.Ythakngphffoooaa.Rg
/-
  The head of layer 17's statements ('up', the document's example) returns true. Memory that was there is left as it was.
-/
namespace Go.Proofs.Ythakngphffoooaa.Zn
open Go.RowKit Go.Proofs.Ythakngphffoooaa.Pt Go.Proofs.Ythakngphffoooaa.Rc Go.Proofs.Ythakngphffoooaa.Pts Go.Proofs.Ythakngphffoooaa.Pl Go.Proofs.Ythakngphffoooaa.Rg Go.Proofs.Ythakngphffoooaa.Mo
set_option linter.unusedVariables false
set_option linter.unusedSimpArgs false

theorem eql_arg (w : World) : (binOp .eql 32 (.iface 37 (.int .i64 1)) (.iface 37 (.int .i64 1))).run Try.prog w = .ok (.bool true) w := by kernel_rfl
theorem none_at (w : World) : PtsAt w w.heap.size none [] := fun h => absurd rfl h
set_option maxHeartbeats 2000000 in
set_option maxRecDepth 100000 in
theorem up_any (w : World) : Calls Try.prog 5 #[] w fun e w' => e = .returned (.bool true) ∧ Below w.heap.size w w' := by
  have q1 := eql_arg
  have q2 := eql_nils
  have q3 := eql_rect (-1) (-1) 7 7 (-1) (-1) 7 7
  rw [eq4_self] at q3
  have U1 : Hid (∀ W, Calls Try.prog 7 #[.agg #[.int .i64 1, .int .i64 1, .int .i64 2, .int .i64 2, .slice none 0 0], .agg #[.int .i64 0, .int .i64 0, .int .i64 9, .int .i64 9]] W fun e w' => e = .returned (.tuple #[.agg #[.int .i64 (-1), .int .i64 (-1), .int .i64 7, .int .i64 7], .nilIface]) ∧ Below W.heap.size W w') := Lib.hid fun W => of_yes 1 1 2 2 [] none 0 0 0 9 9 W (none_at W) (by decide) (by decide) (by decide) (by decide)
  have U2 : Hid (∀ W, Calls Try.prog 7 #[.agg #[.int .i64 1, .int .i64 1, .int .i64 2, .int .i64 2, .slice none 0 0], .agg #[.int .i64 0, .int .i64 0, .int .i64 0, .int .i64 0]] W fun e w' => e = .returned (.tuple #[.agg #[.int .i64 0, .int .i64 0, .int .i64 0, .int .i64 0], .iface 37 (.int .i64 1)]) ∧ Below W.heap.size W w') := Lib.hid fun W => of_far 1 1 2 2 [] none 0 0 0 0 0 W (none_at W) (by decide) (by decide) (by decide) (by decide)
  have U3 : Hid (∀ W, Calls Try.prog 9 #[.agg #[.int .i64 1, .int .i64 1, .int .i64 2, .int .i64 2, .slice none 0 0], .agg #[.int .i64 0, .int .i64 0, .int .i64 9, .int .i64 9], .agg #[.int .i64 0, .int .i64 0]] W fun e w' => e = .returned (.bool true) ∧ Below W.heap.size W w') := Lib.hid fun W => safe_any 1 1 2 2 [] none 0 0 0 9 9 (0, 0) W (none_at W) (by decide)
  have L0 := (fun h => Kp.ad50 h w.heap.size rfl (.int .i64 1) (.int .i64 1) (.int .i64 2) (.int .i64 2) (.slice none 0 0) 26) ⟨Nat.le_refl _, Below.refl w.heap.size w⟩
  have L := Lib.hid L0
  clear L0
  have z := L.out
  go_enter Try.func5, Try.ntmps5
  go_wp2_with fail
  refine (U1.out _).mono ?_
  rintro e w1 ⟨rfl, hb1⟩
  have K1 := Lib.hid ((Kp.two hb1 (Kp.two hb1 (Kp.one hb1 (Kp.ends hb1)))) L.out)
  clear hb1 z L
  have M1 := Lib.hid ((Kp.two (Kp.behind _ (.cells #[.int .i64 (-1), .int .i64 (-1), .int .i64 7, .int .i64 7] 23)) (Kp.two (Kp.behind _ (.cells #[.int .i64 (-1), .int .i64 (-1), .int .i64 7, .int .i64 7] 23)) (Kp.one (Kp.behind _ (.cells #[.int .i64 (-1), .int .i64 (-1), .int .i64 7, .int .i64 7] 23)) (fun h => Kp.adq0 h w1.heap.size rfl (.int .i64 (-1)) (.int .i64 (-1)) (.int .i64 7) (.int .i64 7) 23)))) K1.out)
  have y1 := K1.out
  clear K1
  have z1 := M1.out
  go_wp2_with fail
  refine (U2.out _).mono ?_
  rintro e w2 ⟨rfl, hb2⟩
  have K2 := Lib.hid ((Kp.two hb2 (Kp.two hb2 (Kp.two hb2 (Kp.two hb2 (Kp.one hb2 (Kp.ends hb2)))))) M1.out)
  clear hb2 z1 y1 M1
  have M2 := Lib.hid ((Kp.two (Kp.behind _ (.cells #[.int .i64 0, .int .i64 0, .int .i64 0, .int .i64 0] 23)) (Kp.two (Kp.behind _ (.cells #[.int .i64 0, .int .i64 0, .int .i64 0, .int .i64 0] 23)) (Kp.two (Kp.behind _ (.cells #[.int .i64 0, .int .i64 0, .int .i64 0, .int .i64 0] 23)) (Kp.two (Kp.behind _ (.cells #[.int .i64 0, .int .i64 0, .int .i64 0, .int .i64 0] 23)) (Kp.one (Kp.behind _ (.cells #[.int .i64 0, .int .i64 0, .int .i64 0, .int .i64 0] 23)) (fun h => Kp.adq0 h w2.heap.size rfl (.int .i64 0) (.int .i64 0) (.int .i64 0) (.int .i64 0) 23)))))) K2.out)
  have y2 := K2.out
  clear K2
  have z2 := M2.out
  go_wp2_with fail
  refine (U3.out _).mono ?_
  rintro e w3 ⟨rfl, hb3⟩
  have K3 := Lib.hid ((Kp.two hb3 (Kp.two hb3 (Kp.two hb3 (Kp.two hb3 (Kp.two hb3 (Kp.two hb3 (Kp.one hb3 (Kp.ends hb3)))))))) M2.out)
  clear hb3 z2 y2 M2
  have z3 := K3.out
  go_wp2_with fail
  go_ret
  exact ⟨rfl, K3.out.2.2.2.2.2.2.2.2.2.2.2.2.2.2⟩
end Go.Proofs.Ythakngphffoooaa.Zn
namespace Go.Proofs.Ythakngphffoooaa.Mo
open Go.RowKit Go.Proofs.Ythakngphffoooaa.Pt Go.Proofs.Ythakngphffoooaa.Rc

theorem refShift_any (s : Int) (w : World) : Calls Try.prog 13 #[.int .i64 s] w fun e w' => e = .returned (.bool (shB s)) ∧ w = w' := by
  go_enter Try.func13, Try.ntmps13
  go_wp2
  all_goals (go_ret; exact ⟨by simp [shB, *] <;> omega, rfl⟩)

end Go.Proofs.Ythakngphffoooaa.Mo
