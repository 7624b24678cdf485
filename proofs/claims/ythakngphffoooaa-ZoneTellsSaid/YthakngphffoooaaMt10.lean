/-
  Slices of uint64 that are read, and such that a call appends to. No program here.
-/
import Derived.Test.YthakngphffoooaaMt04
import Derived.Test.YthakngphffoooaaMt08
import Derived.Test.YthakngphffoooaaMt09
import Derived.Sort.Row
import Derived.OwnWalk
import Derived.WalkKit
import Derived.Below
import Derived.Lib.Hide
import Derived.Deep.Draws
import Derived.Maps.AppendAt
/-
  Contracts of Of of layer 17 (zone) and of the document's Zone. Memory that was there is left as it was.
-/
namespace Go.Proofs.Ythakngphffoooaa.Zn
open Go.RowKit Go.Proofs.Ythakngphffoooaa.Pt Go.Proofs.Ythakngphffoooaa.Rc Go.Proofs.Ythakngphffoooaa.Pts Go.Proofs.Ythakngphffoooaa.Pl Go.Proofs.Ythakngphffoooaa.Rg Go.Proofs.Ythakngphffoooaa.Mo
set_option linter.unusedVariables false
set_option linter.unusedSimpArgs false
open Go.Proofs.Ythakngphffoooaa.Cv (fa la)
theorem neq_arg (w : World) : (binOp .neq 32 (.iface 37 (.int .i64 1)) .nilIface).run Try.prog w = .ok (.bool true) w := by kernel_rfl
theorem neq_nils (w : World) : (binOp .neq 32 .nilIface .nilIface).run Try.prog w = .ok (.bool false) w := by kernel_rfl
def ev (q : Bool) : Value := if q then .nilIface else .iface 37 (.int .i64 1)

set_option maxHeartbeats 2000000 in
set_option maxRecDepth 100000 in
theorem of_bad (a b c d : Int) (l : List Pnt) (A : Option Addr) (k : Nat) (x1 y1 x2 y2 : Int) (w : World) (hA : PtsAt w w.heap.size A l) (hn : l.length ≤ 70) (hg : rgB a b c d l = false) :
    Calls Try.prog 7 #[.agg #[.int .i64 a, .int .i64 b, .int .i64 c, .int .i64 d, .slice A l.length k], .agg #[.int .i64 x1, .int .i64 y1, .int .i64 x2, .int .i64 y2]] w fun e w' => e = .returned (.tuple #[.agg #[.int .i64 0, .int .i64 0, .int .i64 0, .int .i64 0], .iface 37 (.int .i64 1)]) ∧ Below w.heap.size w w' := by
  have C1 := Lib.hid (fun W (h : Below w.heap.size w W) => box_bad a b c d l A k W ((hA.later h).wide h.size) hn hg)
  obtain ⟨n, e⟩ : ∃ n, n = l.length := ⟨_, rfl⟩
  rw [← e] at C1 ⊢
  clear e
  clear hA hn hg
  have q1 := neq_arg
  have L0 := (fun h => Kp.ad50 h w.heap.size rfl (.int .i64 a) (.int .i64 b) (.int .i64 c) (.int .i64 d) (.slice A n k) 26) ⟨Nat.le_refl _, Below.refl w.heap.size w⟩
  have L1 := (Kp.two (Kp.behind _ (.cells #[.int .i64 x1, .int .i64 y1, .int .i64 x2, .int .i64 y2] 23)) (Kp.two (Kp.behind _ (.cells #[.int .i64 x1, .int .i64 y1, .int .i64 x2, .int .i64 y2] 23)) (Kp.one (Kp.behind _ (.cells #[.int .i64 x1, .int .i64 y1, .int .i64 x2, .int .i64 y2] 23)) (fun h => Kp.adq0 h (w.heap.size + 1) (by simp) (.int .i64 x1) (.int .i64 y1) (.int .i64 x2) (.int .i64 y2) 23)))) L0
  have L2 := (Kp.two (Kp.behind _ (.cells #[.int .i64 0, .int .i64 0, .int .i64 0, .int .i64 0] 23)) (Kp.two (Kp.behind _ (.cells #[.int .i64 0, .int .i64 0, .int .i64 0, .int .i64 0] 23)) (Kp.two (Kp.behind _ (.cells #[.int .i64 0, .int .i64 0, .int .i64 0, .int .i64 0] 23)) (Kp.two (Kp.behind _ (.cells #[.int .i64 0, .int .i64 0, .int .i64 0, .int .i64 0] 23)) (Kp.one (Kp.behind _ (.cells #[.int .i64 0, .int .i64 0, .int .i64 0, .int .i64 0] 23)) (fun h => Kp.adq0 h (w.heap.size + 1 + 1) (by simp) (.int .i64 0) (.int .i64 0) (.int .i64 0) (.int .i64 0) 23)))))) L1
  have L := Lib.hid L2
  clear L0 L1 L2
  have z := L.out
  have F0 : ∀ o, (((w.alloc (.cells #[.int .i64 a, .int .i64 b, .int .i64 c, .int .i64 d, .slice A n k] 26)).alloc (.cells #[.int .i64 x1, .int .i64 y1, .int .i64 x2, .int .i64 y2] 23)).alloc (.cells #[.int .i64 0, .int .i64 0, .int .i64 0, .int .i64 0] 23)).frozen? ⟨w.heap.size + 1 + 1, o, none⟩ = false := Kp.newsoft _ _ (by simp) _ _
  have Z0 : w.heap.size + 1 + 1 < (((w.alloc (.cells #[.int .i64 a, .int .i64 b, .int .i64 c, .int .i64 d, .slice A n k] 26)).alloc (.cells #[.int .i64 x1, .int .i64 y1, .int .i64 x2, .int .i64 y2] 23)).alloc (.cells #[.int .i64 0, .int .i64 0, .int .i64 0, .int .i64 0] 23)).heap.size := by simp
  go_enter Try.func7, Try.ntmps7
  go_wp2_with fail
  refine (C1.out _ L.out.2.2.2.2.2.2.2.2.2.2.2.2.2.2).mono ?_
  rintro e w1 ⟨rfl, hb1⟩
  have K1 := Lib.hid ((Kp.two hb1 (Kp.two hb1 (Kp.two hb1 (Kp.two hb1 (Kp.two hb1 (Kp.two hb1 (Kp.one hb1 (Kp.ends hb1)))))))) L.out)
  have z1 := K1.out
  have F1 := Kp.soft hb1 Z0 F0
  have Z1 : w.heap.size + 1 + 1 < w1.heap.size := Nat.lt_of_lt_of_le Z0 hb1.size
  clear hb1 z L F0 Z0
  have M1 := Lib.hid ((Kp.two (Kp.behind _ (.cells #[.int .i64 0, .int .i64 0, .int .i64 0, .int .i64 0] 23)) (Kp.two (Kp.behind _ (.cells #[.int .i64 0, .int .i64 0, .int .i64 0, .int .i64 0] 23)) (Kp.two (Kp.behind _ (.cells #[.int .i64 0, .int .i64 0, .int .i64 0, .int .i64 0] 23)) (Kp.two (Kp.behind _ (.cells #[.int .i64 0, .int .i64 0, .int .i64 0, .int .i64 0] 23)) (Kp.two (Kp.behind _ (.cells #[.int .i64 0, .int .i64 0, .int .i64 0, .int .i64 0] 23)) (Kp.two (Kp.behind _ (.cells #[.int .i64 0, .int .i64 0, .int .i64 0, .int .i64 0] 23)) (Kp.one (Kp.behind _ (.cells #[.int .i64 0, .int .i64 0, .int .i64 0, .int .i64 0] 23)) (fun h => Kp.adq0 h w1.heap.size rfl (.int .i64 0) (.int .i64 0) (.int .i64 0) (.int .i64 0) 23)))))))) K1.out)
  have u1 := M1.out
  have G1 := fa (.cells #[.int .i64 0, .int .i64 0, .int .i64 0, .int .i64 0] 23) Z1 F1
  have Y1 := la (.cells #[.int .i64 0, .int .i64 0, .int .i64 0, .int .i64 0] 23) Z1
  go_wp2_with fail
  refine bodyPost_ret (v := .tuple #[.agg #[.int .i64 0, .int .i64 0, .int .i64 0, .int .i64 0], .iface 37 (.int .i64 1)]) (by simp [results, Try.results7, go_sem, *]) rfl ⟨rfl, ?_⟩
  have B := K1.out.2.2.2.2.2.2.2.2.2.2.2.2.2.2
  exact ((((B.setCell (by simp; try omega) _).setCell (by simp; try omega) _).setCell (by simp; try omega) _).setCell (by simp; try omega) _).alloc (by have := B.size; simp; omega) _

set_option maxHeartbeats 2000000 in
set_option maxRecDepth 100000 in
theorem of_box (a b c d : Int) (l : List Pnt) (A : Option Addr) (k : Nat) (x1 y1 x2 y2 : Int) (w : World) (hA : PtsAt w w.heap.size A l) (hn : l.length ≤ 70) (hg : rgB a b c d l = true) (hb : rmayB x1 y1 x2 y2 = false) :
    Calls Try.prog 7 #[.agg #[.int .i64 a, .int .i64 b, .int .i64 c, .int .i64 d, .slice A l.length k], .agg #[.int .i64 x1, .int .i64 y1, .int .i64 x2, .int .i64 y2]] w fun e w' => e = .returned (.tuple #[.agg #[.int .i64 0, .int .i64 0, .int .i64 0, .int .i64 0], .iface 37 (.int .i64 1)]) ∧ Below w.heap.size w w' := by
  have C1 := Lib.hid (fun W (h : Below w.heap.size w W) => box_any a b c d l A k W ((hA.later h).wide h.size) hn hg)
  have C2 := Lib.hid (fun W => rmay_any x1 y1 x2 y2 W)
  have C3 := Lib.hid (fun W => holds_any x1 y1 x2 y2 (rgX a b c d l).x1 (rgX a b c d l).y1 (rgX a b c d l).x2 (rgX a b c d l).y2 W)
  rw [hb] at C2
  clear C3
  obtain ⟨r, er⟩ : ∃ r, r = (rgX a b c d l) := ⟨_, rfl⟩
  rw [← er] at C1
  clear er
  obtain ⟨n, e⟩ : ∃ n, n = l.length := ⟨_, rfl⟩
  rw [← e] at C1 ⊢
  clear e
  clear hA hn hg hb
  have q1 := neq_nils
  have L0 := (fun h => Kp.ad50 h w.heap.size rfl (.int .i64 a) (.int .i64 b) (.int .i64 c) (.int .i64 d) (.slice A n k) 26) ⟨Nat.le_refl _, Below.refl w.heap.size w⟩
  have L1 := (Kp.two (Kp.behind _ (.cells #[.int .i64 x1, .int .i64 y1, .int .i64 x2, .int .i64 y2] 23)) (Kp.two (Kp.behind _ (.cells #[.int .i64 x1, .int .i64 y1, .int .i64 x2, .int .i64 y2] 23)) (Kp.one (Kp.behind _ (.cells #[.int .i64 x1, .int .i64 y1, .int .i64 x2, .int .i64 y2] 23)) (fun h => Kp.adq0 h (w.heap.size + 1) (by simp) (.int .i64 x1) (.int .i64 y1) (.int .i64 x2) (.int .i64 y2) 23)))) L0
  have L2 := (Kp.two (Kp.behind _ (.cells #[.int .i64 0, .int .i64 0, .int .i64 0, .int .i64 0] 23)) (Kp.two (Kp.behind _ (.cells #[.int .i64 0, .int .i64 0, .int .i64 0, .int .i64 0] 23)) (Kp.two (Kp.behind _ (.cells #[.int .i64 0, .int .i64 0, .int .i64 0, .int .i64 0] 23)) (Kp.two (Kp.behind _ (.cells #[.int .i64 0, .int .i64 0, .int .i64 0, .int .i64 0] 23)) (Kp.one (Kp.behind _ (.cells #[.int .i64 0, .int .i64 0, .int .i64 0, .int .i64 0] 23)) (fun h => Kp.adq0 h (w.heap.size + 1 + 1) (by simp) (.int .i64 0) (.int .i64 0) (.int .i64 0) (.int .i64 0) 23)))))) L1
  have L := Lib.hid L2
  clear L0 L1 L2
  have z := L.out
  have F0 : ∀ o, (((w.alloc (.cells #[.int .i64 a, .int .i64 b, .int .i64 c, .int .i64 d, .slice A n k] 26)).alloc (.cells #[.int .i64 x1, .int .i64 y1, .int .i64 x2, .int .i64 y2] 23)).alloc (.cells #[.int .i64 0, .int .i64 0, .int .i64 0, .int .i64 0] 23)).frozen? ⟨w.heap.size + 1 + 1, o, none⟩ = false := Kp.newsoft _ _ (by simp) _ _
  have Z0 : w.heap.size + 1 + 1 < (((w.alloc (.cells #[.int .i64 a, .int .i64 b, .int .i64 c, .int .i64 d, .slice A n k] 26)).alloc (.cells #[.int .i64 x1, .int .i64 y1, .int .i64 x2, .int .i64 y2] 23)).alloc (.cells #[.int .i64 0, .int .i64 0, .int .i64 0, .int .i64 0] 23)).heap.size := by simp
  go_enter Try.func7, Try.ntmps7
  go_wp2_with fail
  refine (C1.out _ L.out.2.2.2.2.2.2.2.2.2.2.2.2.2.2).mono ?_
  rintro e w1 ⟨rfl, hb1⟩
  have K1 := Lib.hid ((Kp.two hb1 (Kp.two hb1 (Kp.two hb1 (Kp.two hb1 (Kp.two hb1 (Kp.two hb1 (Kp.one hb1 (Kp.ends hb1)))))))) L.out)
  have z1 := K1.out
  have F1 := Kp.soft hb1 Z0 F0
  have Z1 : w.heap.size + 1 + 1 < w1.heap.size := Nat.lt_of_lt_of_le Z0 hb1.size
  clear hb1 z L F0 Z0
  have M1 := Lib.hid ((Kp.two (Kp.behind _ (.cells #[.int .i64 r.x1, .int .i64 r.y1, .int .i64 r.x2, .int .i64 r.y2] 23)) (Kp.two (Kp.behind _ (.cells #[.int .i64 r.x1, .int .i64 r.y1, .int .i64 r.x2, .int .i64 r.y2] 23)) (Kp.two (Kp.behind _ (.cells #[.int .i64 r.x1, .int .i64 r.y1, .int .i64 r.x2, .int .i64 r.y2] 23)) (Kp.two (Kp.behind _ (.cells #[.int .i64 r.x1, .int .i64 r.y1, .int .i64 r.x2, .int .i64 r.y2] 23)) (Kp.two (Kp.behind _ (.cells #[.int .i64 r.x1, .int .i64 r.y1, .int .i64 r.x2, .int .i64 r.y2] 23)) (Kp.two (Kp.behind _ (.cells #[.int .i64 r.x1, .int .i64 r.y1, .int .i64 r.x2, .int .i64 r.y2] 23)) (Kp.one (Kp.behind _ (.cells #[.int .i64 r.x1, .int .i64 r.y1, .int .i64 r.x2, .int .i64 r.y2] 23)) (fun h => Kp.adq0 h w1.heap.size rfl (.int .i64 r.x1) (.int .i64 r.y1) (.int .i64 r.x2) (.int .i64 r.y2) 23)))))))) K1.out)
  have u1 := M1.out
  have G1 := fa (.cells #[.int .i64 r.x1, .int .i64 r.y1, .int .i64 r.x2, .int .i64 r.y2] 23) Z1 F1
  have Y1 := la (.cells #[.int .i64 r.x1, .int .i64 r.y1, .int .i64 r.x2, .int .i64 r.y2] 23) Z1
  go_wp2_with fail
  refine (C2.out _).mono ?_
  rintro e w2 ⟨rfl, hb2⟩
  have K2 := Lib.hid ((Kp.two hb2 (Kp.two hb2 (Kp.two hb2 (Kp.two hb2 (Kp.two hb2 (Kp.two hb2 (Kp.two hb2 (Kp.two hb2 (Kp.one hb2 (Kp.ends hb2)))))))))) M1.out)
  have z2 := K2.out
  have F2 := Kp.soft hb2 Y1 G1
  have Z2 : w.heap.size + 1 + 1 < w2.heap.size := Nat.lt_of_lt_of_le Y1 hb2.size
  clear hb2 z1 u1 K1 F1 Z1 M1 G1 Y1
  go_wp2_with fail
  refine bodyPost_ret (v := .tuple #[.agg #[.int .i64 0, .int .i64 0, .int .i64 0, .int .i64 0], .iface 37 (.int .i64 1)]) (by simp [results, Try.results7, go_sem, *]) rfl ⟨rfl, ?_⟩
  have B := K2.out.2.2.2.2.2.2.2.2.2.2.2.2.2.2.2.2.2.2
  exact ((((B.setCell (by simp; try omega) _).setCell (by simp; try omega) _).setCell (by simp; try omega) _).setCell (by simp; try omega) _)

set_option maxHeartbeats 2000000 in
set_option maxRecDepth 100000 in
theorem of_far (a b c d : Int) (l : List Pnt) (A : Option Addr) (k : Nat) (x1 y1 x2 y2 : Int) (w : World) (hA : PtsAt w w.heap.size A l) (hn : l.length ≤ 70) (hg : rgB a b c d l = true) (hb : rmayB x1 y1 x2 y2 = true) (hh : holdsB x1 y1 x2 y2 (rgX a b c d l).x1 (rgX a b c d l).y1 (rgX a b c d l).x2 (rgX a b c d l).y2 = false) :
    Calls Try.prog 7 #[.agg #[.int .i64 a, .int .i64 b, .int .i64 c, .int .i64 d, .slice A l.length k], .agg #[.int .i64 x1, .int .i64 y1, .int .i64 x2, .int .i64 y2]] w fun e w' => e = .returned (.tuple #[.agg #[.int .i64 0, .int .i64 0, .int .i64 0, .int .i64 0], .iface 37 (.int .i64 1)]) ∧ Below w.heap.size w w' := by
  have C1 := Lib.hid (fun W (h : Below w.heap.size w W) => box_any a b c d l A k W ((hA.later h).wide h.size) hn hg)
  have C2 := Lib.hid (fun W => rmay_any x1 y1 x2 y2 W)
  have C3 := Lib.hid (fun W => holds_any x1 y1 x2 y2 (rgX a b c d l).x1 (rgX a b c d l).y1 (rgX a b c d l).x2 (rgX a b c d l).y2 W)
  rw [hb] at C2
  rw [hh] at C3
  clear hh
  obtain ⟨r, er⟩ : ∃ r, r = (rgX a b c d l) := ⟨_, rfl⟩
  rw [← er] at C1 C3
  clear er
  obtain ⟨n, e⟩ : ∃ n, n = l.length := ⟨_, rfl⟩
  rw [← e] at C1 ⊢
  clear e
  clear hA hn hg hb
  have q1 := neq_nils
  have L0 := (fun h => Kp.ad50 h w.heap.size rfl (.int .i64 a) (.int .i64 b) (.int .i64 c) (.int .i64 d) (.slice A n k) 26) ⟨Nat.le_refl _, Below.refl w.heap.size w⟩
  have L1 := (Kp.two (Kp.behind _ (.cells #[.int .i64 x1, .int .i64 y1, .int .i64 x2, .int .i64 y2] 23)) (Kp.two (Kp.behind _ (.cells #[.int .i64 x1, .int .i64 y1, .int .i64 x2, .int .i64 y2] 23)) (Kp.one (Kp.behind _ (.cells #[.int .i64 x1, .int .i64 y1, .int .i64 x2, .int .i64 y2] 23)) (fun h => Kp.adq0 h (w.heap.size + 1) (by simp) (.int .i64 x1) (.int .i64 y1) (.int .i64 x2) (.int .i64 y2) 23)))) L0
  have L2 := (Kp.two (Kp.behind _ (.cells #[.int .i64 0, .int .i64 0, .int .i64 0, .int .i64 0] 23)) (Kp.two (Kp.behind _ (.cells #[.int .i64 0, .int .i64 0, .int .i64 0, .int .i64 0] 23)) (Kp.two (Kp.behind _ (.cells #[.int .i64 0, .int .i64 0, .int .i64 0, .int .i64 0] 23)) (Kp.two (Kp.behind _ (.cells #[.int .i64 0, .int .i64 0, .int .i64 0, .int .i64 0] 23)) (Kp.one (Kp.behind _ (.cells #[.int .i64 0, .int .i64 0, .int .i64 0, .int .i64 0] 23)) (fun h => Kp.adq0 h (w.heap.size + 1 + 1) (by simp) (.int .i64 0) (.int .i64 0) (.int .i64 0) (.int .i64 0) 23)))))) L1
  have L := Lib.hid L2
  clear L0 L1 L2
  have z := L.out
  have F0 : ∀ o, (((w.alloc (.cells #[.int .i64 a, .int .i64 b, .int .i64 c, .int .i64 d, .slice A n k] 26)).alloc (.cells #[.int .i64 x1, .int .i64 y1, .int .i64 x2, .int .i64 y2] 23)).alloc (.cells #[.int .i64 0, .int .i64 0, .int .i64 0, .int .i64 0] 23)).frozen? ⟨w.heap.size + 1 + 1, o, none⟩ = false := Kp.newsoft _ _ (by simp) _ _
  have Z0 : w.heap.size + 1 + 1 < (((w.alloc (.cells #[.int .i64 a, .int .i64 b, .int .i64 c, .int .i64 d, .slice A n k] 26)).alloc (.cells #[.int .i64 x1, .int .i64 y1, .int .i64 x2, .int .i64 y2] 23)).alloc (.cells #[.int .i64 0, .int .i64 0, .int .i64 0, .int .i64 0] 23)).heap.size := by simp
  go_enter Try.func7, Try.ntmps7
  go_wp2_with fail
  refine (C1.out _ L.out.2.2.2.2.2.2.2.2.2.2.2.2.2.2).mono ?_
  rintro e w1 ⟨rfl, hb1⟩
  have K1 := Lib.hid ((Kp.two hb1 (Kp.two hb1 (Kp.two hb1 (Kp.two hb1 (Kp.two hb1 (Kp.two hb1 (Kp.one hb1 (Kp.ends hb1)))))))) L.out)
  have z1 := K1.out
  have F1 := Kp.soft hb1 Z0 F0
  have Z1 : w.heap.size + 1 + 1 < w1.heap.size := Nat.lt_of_lt_of_le Z0 hb1.size
  clear hb1 z L F0 Z0
  have M1 := Lib.hid ((Kp.two (Kp.behind _ (.cells #[.int .i64 r.x1, .int .i64 r.y1, .int .i64 r.x2, .int .i64 r.y2] 23)) (Kp.two (Kp.behind _ (.cells #[.int .i64 r.x1, .int .i64 r.y1, .int .i64 r.x2, .int .i64 r.y2] 23)) (Kp.two (Kp.behind _ (.cells #[.int .i64 r.x1, .int .i64 r.y1, .int .i64 r.x2, .int .i64 r.y2] 23)) (Kp.two (Kp.behind _ (.cells #[.int .i64 r.x1, .int .i64 r.y1, .int .i64 r.x2, .int .i64 r.y2] 23)) (Kp.two (Kp.behind _ (.cells #[.int .i64 r.x1, .int .i64 r.y1, .int .i64 r.x2, .int .i64 r.y2] 23)) (Kp.two (Kp.behind _ (.cells #[.int .i64 r.x1, .int .i64 r.y1, .int .i64 r.x2, .int .i64 r.y2] 23)) (Kp.one (Kp.behind _ (.cells #[.int .i64 r.x1, .int .i64 r.y1, .int .i64 r.x2, .int .i64 r.y2] 23)) (fun h => Kp.adq0 h w1.heap.size rfl (.int .i64 r.x1) (.int .i64 r.y1) (.int .i64 r.x2) (.int .i64 r.y2) 23)))))))) K1.out)
  have u1 := M1.out
  have G1 := fa (.cells #[.int .i64 r.x1, .int .i64 r.y1, .int .i64 r.x2, .int .i64 r.y2] 23) Z1 F1
  have Y1 := la (.cells #[.int .i64 r.x1, .int .i64 r.y1, .int .i64 r.x2, .int .i64 r.y2] 23) Z1
  go_wp2_with fail
  refine (C2.out _).mono ?_
  rintro e w2 ⟨rfl, hb2⟩
  have K2 := Lib.hid ((Kp.two hb2 (Kp.two hb2 (Kp.two hb2 (Kp.two hb2 (Kp.two hb2 (Kp.two hb2 (Kp.two hb2 (Kp.two hb2 (Kp.one hb2 (Kp.ends hb2)))))))))) M1.out)
  have z2 := K2.out
  have F2 := Kp.soft hb2 Y1 G1
  have Z2 : w.heap.size + 1 + 1 < w2.heap.size := Nat.lt_of_lt_of_le Y1 hb2.size
  clear hb2 z1 u1 K1 F1 Z1 M1 G1 Y1
  go_wp2_with fail
  refine (C3.out _).mono ?_
  rintro e w3 ⟨rfl, hb3⟩
  have K3 := Lib.hid ((Kp.two hb3 (Kp.two hb3 (Kp.two hb3 (Kp.two hb3 (Kp.two hb3 (Kp.two hb3 (Kp.two hb3 (Kp.two hb3 (Kp.one hb3 (Kp.ends hb3)))))))))) K2.out)
  have z3 := K3.out
  have F3 := Kp.soft hb3 Z2 F2
  have Z3 : w.heap.size + 1 + 1 < w3.heap.size := Nat.lt_of_lt_of_le Z2 hb3.size
  clear hb3 z2 K2 F2 Z2
  go_wp2_with fail
  refine bodyPost_ret (v := .tuple #[.agg #[.int .i64 0, .int .i64 0, .int .i64 0, .int .i64 0], .iface 37 (.int .i64 1)]) (by simp [results, Try.results7, go_sem, *]) rfl ⟨rfl, ?_⟩
  have B := K3.out.2.2.2.2.2.2.2.2.2.2.2.2.2.2.2.2.2.2
  exact ((((B.setCell (by simp; try omega) _).setCell (by simp; try omega) _).setCell (by simp; try omega) _).setCell (by simp; try omega) _)

set_option maxHeartbeats 2000000 in
set_option maxRecDepth 100000 in
theorem of_yes (a b c d : Int) (l : List Pnt) (A : Option Addr) (k : Nat) (x1 y1 x2 y2 : Int) (w : World) (hA : PtsAt w w.heap.size A l) (hn : l.length ≤ 70) (hg : rgB a b c d l = true) (hb : rmayB x1 y1 x2 y2 = true) (hh : holdsB x1 y1 x2 y2 (rgX a b c d l).x1 (rgX a b c d l).y1 (rgX a b c d l).x2 (rgX a b c d l).y2 = true) :
    Calls Try.prog 7 #[.agg #[.int .i64 a, .int .i64 b, .int .i64 c, .int .i64 d, .slice A l.length k], .agg #[.int .i64 x1, .int .i64 y1, .int .i64 x2, .int .i64 y2]] w fun e w' => e = .returned (.tuple #[.agg #[.int .i64 (x1 - (rgX a b c d l).x1), .int .i64 (y1 - (rgX a b c d l).y1), .int .i64 (x2 - (rgX a b c d l).x2), .int .i64 (y2 - (rgX a b c d l).y2)], .nilIface]) ∧ Below w.heap.size w w' := by
  have C1 := Lib.hid (fun W (h : Below w.heap.size w W) => box_any a b c d l A k W ((hA.later h).wide h.size) hn hg)
  have C2 := Lib.hid (fun W => rmay_any x1 y1 x2 y2 W)
  have C3 := Lib.hid (fun W => holds_any x1 y1 x2 y2 (rgX a b c d l).x1 (rgX a b c d l).y1 (rgX a b c d l).x2 (rgX a b c d l).y2 W)
  rw [hb] at C2
  rw [hh] at C3
  clear hh
  have RM := rgX_may hg
  have BM := hb
  obtain ⟨p1, p2, p3, p4, p5, p6⟩ := rmayB_bd BM
  obtain ⟨r, er⟩ : ∃ r, r = (rgX a b c d l) := ⟨_, rfl⟩
  rw [← er] at C1 C3 RM ⊢
  clear er
  obtain ⟨s1, s2, s3, s4, s5, s6⟩ := rmayB_bd RM
  have X1 := Lib.hid (wrap_less (x := x1) (y := r.x1) (by omega) (by omega))
  have X2 := Lib.hid (wrap_less (x := y1) (y := r.y1) (by omega) (by omega))
  have X3 := Lib.hid (wrap_less (x := x2) (y := r.x2) (by omega) (by omega))
  have X4 := Lib.hid (wrap_less (x := y2) (y := r.y2) (by omega) (by omega))
  clear RM BM p1 p2 p3 p4 p5 p6 s1 s2 s3 s4 s5 s6
  obtain ⟨n, e⟩ : ∃ n, n = l.length := ⟨_, rfl⟩
  rw [← e] at C1 ⊢
  clear e
  clear hA hn hg hb
  have q1 := neq_nils
  have L0 := (fun h => Kp.ad50 h w.heap.size rfl (.int .i64 a) (.int .i64 b) (.int .i64 c) (.int .i64 d) (.slice A n k) 26) ⟨Nat.le_refl _, Below.refl w.heap.size w⟩
  have L1 := (Kp.two (Kp.behind _ (.cells #[.int .i64 x1, .int .i64 y1, .int .i64 x2, .int .i64 y2] 23)) (Kp.two (Kp.behind _ (.cells #[.int .i64 x1, .int .i64 y1, .int .i64 x2, .int .i64 y2] 23)) (Kp.one (Kp.behind _ (.cells #[.int .i64 x1, .int .i64 y1, .int .i64 x2, .int .i64 y2] 23)) (fun h => Kp.adq0 h (w.heap.size + 1) (by simp) (.int .i64 x1) (.int .i64 y1) (.int .i64 x2) (.int .i64 y2) 23)))) L0
  have L2 := (Kp.two (Kp.behind _ (.cells #[.int .i64 0, .int .i64 0, .int .i64 0, .int .i64 0] 23)) (Kp.two (Kp.behind _ (.cells #[.int .i64 0, .int .i64 0, .int .i64 0, .int .i64 0] 23)) (Kp.two (Kp.behind _ (.cells #[.int .i64 0, .int .i64 0, .int .i64 0, .int .i64 0] 23)) (Kp.two (Kp.behind _ (.cells #[.int .i64 0, .int .i64 0, .int .i64 0, .int .i64 0] 23)) (Kp.one (Kp.behind _ (.cells #[.int .i64 0, .int .i64 0, .int .i64 0, .int .i64 0] 23)) (fun h => Kp.adq0 h (w.heap.size + 1 + 1) (by simp) (.int .i64 0) (.int .i64 0) (.int .i64 0) (.int .i64 0) 23)))))) L1
  have L := Lib.hid L2
  clear L0 L1 L2
  have z := L.out
  have F0 : ∀ o, (((w.alloc (.cells #[.int .i64 a, .int .i64 b, .int .i64 c, .int .i64 d, .slice A n k] 26)).alloc (.cells #[.int .i64 x1, .int .i64 y1, .int .i64 x2, .int .i64 y2] 23)).alloc (.cells #[.int .i64 0, .int .i64 0, .int .i64 0, .int .i64 0] 23)).frozen? ⟨w.heap.size + 1 + 1, o, none⟩ = false := Kp.newsoft _ _ (by simp) _ _
  have Z0 : w.heap.size + 1 + 1 < (((w.alloc (.cells #[.int .i64 a, .int .i64 b, .int .i64 c, .int .i64 d, .slice A n k] 26)).alloc (.cells #[.int .i64 x1, .int .i64 y1, .int .i64 x2, .int .i64 y2] 23)).alloc (.cells #[.int .i64 0, .int .i64 0, .int .i64 0, .int .i64 0] 23)).heap.size := by simp
  go_enter Try.func7, Try.ntmps7
  go_wp2_with fail
  refine (C1.out _ L.out.2.2.2.2.2.2.2.2.2.2.2.2.2.2).mono ?_
  rintro e w1 ⟨rfl, hb1⟩
  have K1 := Lib.hid ((Kp.two hb1 (Kp.two hb1 (Kp.two hb1 (Kp.two hb1 (Kp.two hb1 (Kp.two hb1 (Kp.one hb1 (Kp.ends hb1)))))))) L.out)
  have z1 := K1.out
  have F1 := Kp.soft hb1 Z0 F0
  have Z1 : w.heap.size + 1 + 1 < w1.heap.size := Nat.lt_of_lt_of_le Z0 hb1.size
  clear hb1 z L F0 Z0
  have M1 := Lib.hid ((Kp.two (Kp.behind _ (.cells #[.int .i64 r.x1, .int .i64 r.y1, .int .i64 r.x2, .int .i64 r.y2] 23)) (Kp.two (Kp.behind _ (.cells #[.int .i64 r.x1, .int .i64 r.y1, .int .i64 r.x2, .int .i64 r.y2] 23)) (Kp.two (Kp.behind _ (.cells #[.int .i64 r.x1, .int .i64 r.y1, .int .i64 r.x2, .int .i64 r.y2] 23)) (Kp.two (Kp.behind _ (.cells #[.int .i64 r.x1, .int .i64 r.y1, .int .i64 r.x2, .int .i64 r.y2] 23)) (Kp.two (Kp.behind _ (.cells #[.int .i64 r.x1, .int .i64 r.y1, .int .i64 r.x2, .int .i64 r.y2] 23)) (Kp.two (Kp.behind _ (.cells #[.int .i64 r.x1, .int .i64 r.y1, .int .i64 r.x2, .int .i64 r.y2] 23)) (Kp.one (Kp.behind _ (.cells #[.int .i64 r.x1, .int .i64 r.y1, .int .i64 r.x2, .int .i64 r.y2] 23)) (fun h => Kp.adq0 h w1.heap.size rfl (.int .i64 r.x1) (.int .i64 r.y1) (.int .i64 r.x2) (.int .i64 r.y2) 23)))))))) K1.out)
  have u1 := M1.out
  have G1 := fa (.cells #[.int .i64 r.x1, .int .i64 r.y1, .int .i64 r.x2, .int .i64 r.y2] 23) Z1 F1
  have Y1 := la (.cells #[.int .i64 r.x1, .int .i64 r.y1, .int .i64 r.x2, .int .i64 r.y2] 23) Z1
  go_wp2_with fail
  refine (C2.out _).mono ?_
  rintro e w2 ⟨rfl, hb2⟩
  have K2 := Lib.hid ((Kp.two hb2 (Kp.two hb2 (Kp.two hb2 (Kp.two hb2 (Kp.two hb2 (Kp.two hb2 (Kp.two hb2 (Kp.two hb2 (Kp.one hb2 (Kp.ends hb2)))))))))) M1.out)
  have z2 := K2.out
  have F2 := Kp.soft hb2 Y1 G1
  have Z2 : w.heap.size + 1 + 1 < w2.heap.size := Nat.lt_of_lt_of_le Y1 hb2.size
  clear hb2 z1 u1 K1 F1 Z1 M1 G1 Y1
  go_wp2_with fail
  refine (C3.out _).mono ?_
  rintro e w3 ⟨rfl, hb3⟩
  have K3 := Lib.hid ((Kp.two hb3 (Kp.two hb3 (Kp.two hb3 (Kp.two hb3 (Kp.two hb3 (Kp.two hb3 (Kp.two hb3 (Kp.two hb3 (Kp.one hb3 (Kp.ends hb3)))))))))) K2.out)
  have z3 := K3.out
  have F3 := Kp.soft hb3 Z2 F2
  have Z3 : w.heap.size + 1 + 1 < w3.heap.size := Nat.lt_of_lt_of_le Z2 hb3.size
  clear hb3 z2 K2 F2 Z2
  have t1 := X1.out
  have t2 := X2.out
  have t3 := X3.out
  have t4 := X4.out
  clear X1 X2 X3 X4
  go_wp2_with fail
  refine bodyPost_ret (v := .tuple #[.agg #[.int .i64 (x1 - r.x1), .int .i64 (y1 - r.y1), .int .i64 (x2 - r.x2), .int .i64 (y2 - r.y2)], .nilIface]) (by simp [results, Try.results7, go_sem, *]) rfl ⟨rfl, ?_⟩
  have B := K3.out.2.2.2.2.2.2.2.2.2.2.2.2.2.2.2.2.2.2
  exact ((((B.setCell (by simp; try omega) _).setCell (by simp; try omega) _).setCell (by simp; try omega) _).setCell (by simp; try omega) _)

theorem zof_any (a b c d : Int) (l : List Pnt) (A : Option Addr) (k : Nat) (x1 y1 x2 y2 : Int) (w : World) (hA : PtsAt w w.heap.size A l) (hn : l.length ≤ 70) :
    Calls Try.prog 7 #[.agg #[.int .i64 a, .int .i64 b, .int .i64 c, .int .i64 d, .slice A l.length k], .agg #[.int .i64 x1, .int .i64 y1, .int .i64 x2, .int .i64 y2]] w fun e w' => e = .returned (.tuple #[.agg #[.int .i64 (zc (zB a b c d l x1 y1 x2 y2) (x1 - (rgX a b c d l).x1)), .int .i64 (zc (zB a b c d l x1 y1 x2 y2) (y1 - (rgX a b c d l).y1)), .int .i64 (zc (zB a b c d l x1 y1 x2 y2) (x2 - (rgX a b c d l).x2)), .int .i64 (zc (zB a b c d l x1 y1 x2 y2) (y2 - (rgX a b c d l).y2))], ev (zB a b c d l x1 y1 x2 y2)]) ∧ Below w.heap.size w w' := by
  cases hg : rgB a b c d l
  · have e : zB a b c d l x1 y1 x2 y2 = false := by unfold zB; rw [hg]; rfl
    rw [e]
    exact of_bad a b c d l A k x1 y1 x2 y2 w hA hn hg
  · cases hb : rmayB x1 y1 x2 y2
    · have e : zB a b c d l x1 y1 x2 y2 = false := by unfold zB; rw [hg, hb]; rfl
      rw [e]
      exact of_box a b c d l A k x1 y1 x2 y2 w hA hn hg hb
    · cases hh : holdsB x1 y1 x2 y2 (rgX a b c d l).x1 (rgX a b c d l).y1 (rgX a b c d l).x2 (rgX a b c d l).y2
      · have e : zB a b c d l x1 y1 x2 y2 = false := by unfold zB; rw [hg, hb, hh]; rfl
        rw [e]
        exact of_far a b c d l A k x1 y1 x2 y2 w hA hn hg hb hh
      · have e : zB a b c d l x1 y1 x2 y2 = true := by unfold zB; rw [hg, hb, hh]; rfl
        rw [e]
        exact of_yes a b c d l A k x1 y1 x2 y2 w hA hn hg hb hh

set_option maxHeartbeats 2000000 in
set_option maxRecDepth 100000 in
theorem ref_bad (a b c d : Int) (l : List Pnt) (A : Option Addr) (k : Nat) (x1 y1 x2 y2 : Int) (w : World) (hA : PtsAt w w.heap.size A l) (hn : l.length ≤ 70) (hg : rgB a b c d l = false) :
    Calls Try.prog 8 #[.agg #[.int .i64 a, .int .i64 b, .int .i64 c, .int .i64 d, .slice A l.length k], .agg #[.int .i64 x1, .int .i64 y1, .int .i64 x2, .int .i64 y2]] w fun e w' => e = .returned (.tuple #[.agg #[.int .i64 0, .int .i64 0, .int .i64 0, .int .i64 0], .bool false]) ∧ Below w.heap.size w w' := by
  have C1 := Lib.hid (fun W (h : Below w.heap.size w W) => refRegion_any a b c d l A k W ((hA.later h).wide h.size) hn)
  have C2 := Lib.hid (fun W => refRect_any x1 y1 x2 y2 W)
  rw [hg] at C1
  obtain ⟨m, em⟩ : ∃ m, m = rmayB x1 y1 x2 y2 := ⟨_, rfl⟩
  rw [← em] at C2
  clear em
  obtain ⟨n, e⟩ : ∃ n, n = l.length := ⟨_, rfl⟩
  rw [← e] at C1 ⊢
  clear e
  clear hA hn hg
  have L0 := (fun h => Kp.ad50 h w.heap.size rfl (.int .i64 a) (.int .i64 b) (.int .i64 c) (.int .i64 d) (.slice A n k) 26) ⟨Nat.le_refl _, Below.refl w.heap.size w⟩
  have L1 := (Kp.two (Kp.behind _ (.cells #[.int .i64 x1, .int .i64 y1, .int .i64 x2, .int .i64 y2] 23)) (Kp.two (Kp.behind _ (.cells #[.int .i64 x1, .int .i64 y1, .int .i64 x2, .int .i64 y2] 23)) (Kp.one (Kp.behind _ (.cells #[.int .i64 x1, .int .i64 y1, .int .i64 x2, .int .i64 y2] 23)) (fun h => Kp.adq0 h (w.heap.size + 1) (by simp) (.int .i64 x1) (.int .i64 y1) (.int .i64 x2) (.int .i64 y2) 23)))) L0
  have L2 := (Kp.two (Kp.behind _ (.cells #[.int .i64 0, .int .i64 0, .int .i64 0, .int .i64 0] 23)) (Kp.two (Kp.behind _ (.cells #[.int .i64 0, .int .i64 0, .int .i64 0, .int .i64 0] 23)) (Kp.two (Kp.behind _ (.cells #[.int .i64 0, .int .i64 0, .int .i64 0, .int .i64 0] 23)) (Kp.two (Kp.behind _ (.cells #[.int .i64 0, .int .i64 0, .int .i64 0, .int .i64 0] 23)) (Kp.one (Kp.behind _ (.cells #[.int .i64 0, .int .i64 0, .int .i64 0, .int .i64 0] 23)) (fun h => Kp.adq0 h (w.heap.size + 1 + 1) (by simp) (.int .i64 0) (.int .i64 0) (.int .i64 0) (.int .i64 0) 23)))))) L1
  have L := Lib.hid L2
  clear L0 L1 L2
  have z := L.out
  have F0 : ∀ o, (((w.alloc (.cells #[.int .i64 a, .int .i64 b, .int .i64 c, .int .i64 d, .slice A n k] 26)).alloc (.cells #[.int .i64 x1, .int .i64 y1, .int .i64 x2, .int .i64 y2] 23)).alloc (.cells #[.int .i64 0, .int .i64 0, .int .i64 0, .int .i64 0] 23)).frozen? ⟨w.heap.size + 1 + 1, o, none⟩ = false := Kp.newsoft _ _ (by simp) _ _
  have Z0 : w.heap.size + 1 + 1 < (((w.alloc (.cells #[.int .i64 a, .int .i64 b, .int .i64 c, .int .i64 d, .slice A n k] 26)).alloc (.cells #[.int .i64 x1, .int .i64 y1, .int .i64 x2, .int .i64 y2] 23)).alloc (.cells #[.int .i64 0, .int .i64 0, .int .i64 0, .int .i64 0] 23)).heap.size := by simp
  go_enter Try.func8, Try.ntmps8
  go_wp2_with fail
  refine (C1.out _ L.out.2.2.2.2.2.2.2.2.2.2.2.2.2.2).mono ?_
  rintro e w1 ⟨rfl, hb1⟩
  have K1 := Lib.hid ((Kp.two hb1 (Kp.two hb1 (Kp.two hb1 (Kp.two hb1 (Kp.two hb1 (Kp.two hb1 (Kp.one hb1 (Kp.ends hb1)))))))) L.out)
  have z1 := K1.out
  have F1 := Kp.soft hb1 Z0 F0
  have Z1 : w.heap.size + 1 + 1 < w1.heap.size := Nat.lt_of_lt_of_le Z0 hb1.size
  clear hb1 z L F0 Z0
  go_wp2_with fail
  refine (C2.out _).mono ?_
  rintro e w2 ⟨rfl, hb2⟩
  have K2 := Lib.hid ((Kp.two hb2 (Kp.two hb2 (Kp.two hb2 (Kp.two hb2 (Kp.two hb2 (Kp.two hb2 (Kp.one hb2 (Kp.ends hb2)))))))) K1.out)
  have z2 := K2.out
  have F2 := Kp.soft hb2 Z1 F1
  have Z2 : w.heap.size + 1 + 1 < w2.heap.size := Nat.lt_of_lt_of_le Z1 hb2.size
  clear hb2 z1 K1 F1 Z1
  go_wp2_with fail
  refine bodyPost_ret (v := .tuple #[.agg #[.int .i64 0, .int .i64 0, .int .i64 0, .int .i64 0], .bool false]) (by simp [results, Try.results8, go_sem, *]) rfl ⟨rfl, ?_⟩
  have B := K2.out.2.2.2.2.2.2.2.2.2.2.2.2.2.2
  exact ((((B.setCell (by simp; try omega) _).setCell (by simp; try omega) _).setCell (by simp; try omega) _).setCell (by simp; try omega) _)

set_option maxHeartbeats 2000000 in
set_option maxRecDepth 100000 in
theorem ref_box (a b c d : Int) (l : List Pnt) (A : Option Addr) (k : Nat) (x1 y1 x2 y2 : Int) (w : World) (hA : PtsAt w w.heap.size A l) (hn : l.length ≤ 70) (hg : rgB a b c d l = true) (hb : rmayB x1 y1 x2 y2 = false) :
    Calls Try.prog 8 #[.agg #[.int .i64 a, .int .i64 b, .int .i64 c, .int .i64 d, .slice A l.length k], .agg #[.int .i64 x1, .int .i64 y1, .int .i64 x2, .int .i64 y2]] w fun e w' => e = .returned (.tuple #[.agg #[.int .i64 0, .int .i64 0, .int .i64 0, .int .i64 0], .bool false]) ∧ Below w.heap.size w w' := by
  have C1 := Lib.hid (fun W (h : Below w.heap.size w W) => refRegion_any a b c d l A k W ((hA.later h).wide h.size) hn)
  have C2 := Lib.hid (fun W => refRect_any x1 y1 x2 y2 W)
  rw [hg] at C1
  rw [hb] at C2
  obtain ⟨n, e⟩ : ∃ n, n = l.length := ⟨_, rfl⟩
  rw [← e] at C1 ⊢
  clear e
  clear hA hn hg hb
  have L0 := (fun h => Kp.ad50 h w.heap.size rfl (.int .i64 a) (.int .i64 b) (.int .i64 c) (.int .i64 d) (.slice A n k) 26) ⟨Nat.le_refl _, Below.refl w.heap.size w⟩
  have L1 := (Kp.two (Kp.behind _ (.cells #[.int .i64 x1, .int .i64 y1, .int .i64 x2, .int .i64 y2] 23)) (Kp.two (Kp.behind _ (.cells #[.int .i64 x1, .int .i64 y1, .int .i64 x2, .int .i64 y2] 23)) (Kp.one (Kp.behind _ (.cells #[.int .i64 x1, .int .i64 y1, .int .i64 x2, .int .i64 y2] 23)) (fun h => Kp.adq0 h (w.heap.size + 1) (by simp) (.int .i64 x1) (.int .i64 y1) (.int .i64 x2) (.int .i64 y2) 23)))) L0
  have L2 := (Kp.two (Kp.behind _ (.cells #[.int .i64 0, .int .i64 0, .int .i64 0, .int .i64 0] 23)) (Kp.two (Kp.behind _ (.cells #[.int .i64 0, .int .i64 0, .int .i64 0, .int .i64 0] 23)) (Kp.two (Kp.behind _ (.cells #[.int .i64 0, .int .i64 0, .int .i64 0, .int .i64 0] 23)) (Kp.two (Kp.behind _ (.cells #[.int .i64 0, .int .i64 0, .int .i64 0, .int .i64 0] 23)) (Kp.one (Kp.behind _ (.cells #[.int .i64 0, .int .i64 0, .int .i64 0, .int .i64 0] 23)) (fun h => Kp.adq0 h (w.heap.size + 1 + 1) (by simp) (.int .i64 0) (.int .i64 0) (.int .i64 0) (.int .i64 0) 23)))))) L1
  have L := Lib.hid L2
  clear L0 L1 L2
  have z := L.out
  have F0 : ∀ o, (((w.alloc (.cells #[.int .i64 a, .int .i64 b, .int .i64 c, .int .i64 d, .slice A n k] 26)).alloc (.cells #[.int .i64 x1, .int .i64 y1, .int .i64 x2, .int .i64 y2] 23)).alloc (.cells #[.int .i64 0, .int .i64 0, .int .i64 0, .int .i64 0] 23)).frozen? ⟨w.heap.size + 1 + 1, o, none⟩ = false := Kp.newsoft _ _ (by simp) _ _
  have Z0 : w.heap.size + 1 + 1 < (((w.alloc (.cells #[.int .i64 a, .int .i64 b, .int .i64 c, .int .i64 d, .slice A n k] 26)).alloc (.cells #[.int .i64 x1, .int .i64 y1, .int .i64 x2, .int .i64 y2] 23)).alloc (.cells #[.int .i64 0, .int .i64 0, .int .i64 0, .int .i64 0] 23)).heap.size := by simp
  go_enter Try.func8, Try.ntmps8
  go_wp2_with fail
  refine (C1.out _ L.out.2.2.2.2.2.2.2.2.2.2.2.2.2.2).mono ?_
  rintro e w1 ⟨rfl, hb1⟩
  have K1 := Lib.hid ((Kp.two hb1 (Kp.two hb1 (Kp.two hb1 (Kp.two hb1 (Kp.two hb1 (Kp.two hb1 (Kp.one hb1 (Kp.ends hb1)))))))) L.out)
  have z1 := K1.out
  have F1 := Kp.soft hb1 Z0 F0
  have Z1 : w.heap.size + 1 + 1 < w1.heap.size := Nat.lt_of_lt_of_le Z0 hb1.size
  clear hb1 z L F0 Z0
  go_wp2_with fail
  refine (C2.out _).mono ?_
  rintro e w2 ⟨rfl, hb2⟩
  have K2 := Lib.hid ((Kp.two hb2 (Kp.two hb2 (Kp.two hb2 (Kp.two hb2 (Kp.two hb2 (Kp.two hb2 (Kp.one hb2 (Kp.ends hb2)))))))) K1.out)
  have z2 := K2.out
  have F2 := Kp.soft hb2 Z1 F1
  have Z2 : w.heap.size + 1 + 1 < w2.heap.size := Nat.lt_of_lt_of_le Z1 hb2.size
  clear hb2 z1 K1 F1 Z1
  go_wp2_with fail
  refine bodyPost_ret (v := .tuple #[.agg #[.int .i64 0, .int .i64 0, .int .i64 0, .int .i64 0], .bool false]) (by simp [results, Try.results8, go_sem, *]) rfl ⟨rfl, ?_⟩
  have B := K2.out.2.2.2.2.2.2.2.2.2.2.2.2.2.2
  exact ((((B.setCell (by simp; try omega) _).setCell (by simp; try omega) _).setCell (by simp; try omega) _).setCell (by simp; try omega) _)

set_option maxHeartbeats 2000000 in
set_option maxRecDepth 100000 in
theorem ref_far (a b c d : Int) (l : List Pnt) (A : Option Addr) (k : Nat) (x1 y1 x2 y2 : Int) (w : World) (hA : PtsAt w w.heap.size A l) (hn : l.length ≤ 70) (hg : rgB a b c d l = true) (hb : rmayB x1 y1 x2 y2 = true) (hh : holdsB x1 y1 x2 y2 (rgX a b c d l).x1 (rgX a b c d l).y1 (rgX a b c d l).x2 (rgX a b c d l).y2 = false) :
    Calls Try.prog 8 #[.agg #[.int .i64 a, .int .i64 b, .int .i64 c, .int .i64 d, .slice A l.length k], .agg #[.int .i64 x1, .int .i64 y1, .int .i64 x2, .int .i64 y2]] w fun e w' => e = .returned (.tuple #[.agg #[.int .i64 0, .int .i64 0, .int .i64 0, .int .i64 0], .bool false]) ∧ Below w.heap.size w w' := by
  have C1 := Lib.hid (fun W (h : Below w.heap.size w W) => refRegion_any a b c d l A k W ((hA.later h).wide h.size) hn)
  have C2 := Lib.hid (fun W => refRect_any x1 y1 x2 y2 W)
  have C3 := Lib.hid (fun W (h : Below w.heap.size w W) => refBox_any a b c d l A k W ((hA.later h).wide h.size) hn)
  have C4 := Lib.hid (fun W => refHolds_any x1 y1 x2 y2 (rgX a b c d l).x1 (rgX a b c d l).y1 (rgX a b c d l).x2 (rgX a b c d l).y2 W)
  rw [hg] at C1
  rw [hb] at C2
  rw [hh] at C4
  clear hh
  obtain ⟨r, er⟩ : ∃ r, r = (rgX a b c d l) := ⟨_, rfl⟩
  rw [← er] at C3 C4
  clear er
  obtain ⟨n, e⟩ : ∃ n, n = l.length := ⟨_, rfl⟩
  rw [← e] at C1 C3 ⊢
  clear e
  clear hA hn hg hb
  have L0 := (fun h => Kp.ad50 h w.heap.size rfl (.int .i64 a) (.int .i64 b) (.int .i64 c) (.int .i64 d) (.slice A n k) 26) ⟨Nat.le_refl _, Below.refl w.heap.size w⟩
  have L1 := (Kp.two (Kp.behind _ (.cells #[.int .i64 x1, .int .i64 y1, .int .i64 x2, .int .i64 y2] 23)) (Kp.two (Kp.behind _ (.cells #[.int .i64 x1, .int .i64 y1, .int .i64 x2, .int .i64 y2] 23)) (Kp.one (Kp.behind _ (.cells #[.int .i64 x1, .int .i64 y1, .int .i64 x2, .int .i64 y2] 23)) (fun h => Kp.adq0 h (w.heap.size + 1) (by simp) (.int .i64 x1) (.int .i64 y1) (.int .i64 x2) (.int .i64 y2) 23)))) L0
  have L2 := (Kp.two (Kp.behind _ (.cells #[.int .i64 0, .int .i64 0, .int .i64 0, .int .i64 0] 23)) (Kp.two (Kp.behind _ (.cells #[.int .i64 0, .int .i64 0, .int .i64 0, .int .i64 0] 23)) (Kp.two (Kp.behind _ (.cells #[.int .i64 0, .int .i64 0, .int .i64 0, .int .i64 0] 23)) (Kp.two (Kp.behind _ (.cells #[.int .i64 0, .int .i64 0, .int .i64 0, .int .i64 0] 23)) (Kp.one (Kp.behind _ (.cells #[.int .i64 0, .int .i64 0, .int .i64 0, .int .i64 0] 23)) (fun h => Kp.adq0 h (w.heap.size + 1 + 1) (by simp) (.int .i64 0) (.int .i64 0) (.int .i64 0) (.int .i64 0) 23)))))) L1
  have L := Lib.hid L2
  clear L0 L1 L2
  have z := L.out
  have F0 : ∀ o, (((w.alloc (.cells #[.int .i64 a, .int .i64 b, .int .i64 c, .int .i64 d, .slice A n k] 26)).alloc (.cells #[.int .i64 x1, .int .i64 y1, .int .i64 x2, .int .i64 y2] 23)).alloc (.cells #[.int .i64 0, .int .i64 0, .int .i64 0, .int .i64 0] 23)).frozen? ⟨w.heap.size + 1 + 1, o, none⟩ = false := Kp.newsoft _ _ (by simp) _ _
  have Z0 : w.heap.size + 1 + 1 < (((w.alloc (.cells #[.int .i64 a, .int .i64 b, .int .i64 c, .int .i64 d, .slice A n k] 26)).alloc (.cells #[.int .i64 x1, .int .i64 y1, .int .i64 x2, .int .i64 y2] 23)).alloc (.cells #[.int .i64 0, .int .i64 0, .int .i64 0, .int .i64 0] 23)).heap.size := by simp
  go_enter Try.func8, Try.ntmps8
  go_wp2_with fail
  refine (C1.out _ L.out.2.2.2.2.2.2.2.2.2.2.2.2.2.2).mono ?_
  rintro e w1 ⟨rfl, hb1⟩
  have K1 := Lib.hid ((Kp.two hb1 (Kp.two hb1 (Kp.two hb1 (Kp.two hb1 (Kp.two hb1 (Kp.two hb1 (Kp.one hb1 (Kp.ends hb1)))))))) L.out)
  have z1 := K1.out
  have F1 := Kp.soft hb1 Z0 F0
  have Z1 : w.heap.size + 1 + 1 < w1.heap.size := Nat.lt_of_lt_of_le Z0 hb1.size
  clear hb1 z L F0 Z0
  go_wp2_with fail
  refine (C2.out _).mono ?_
  rintro e w2 ⟨rfl, hb2⟩
  have K2 := Lib.hid ((Kp.two hb2 (Kp.two hb2 (Kp.two hb2 (Kp.two hb2 (Kp.two hb2 (Kp.two hb2 (Kp.one hb2 (Kp.ends hb2)))))))) K1.out)
  have z2 := K2.out
  have F2 := Kp.soft hb2 Z1 F1
  have Z2 : w.heap.size + 1 + 1 < w2.heap.size := Nat.lt_of_lt_of_le Z1 hb2.size
  clear hb2 z1 K1 F1 Z1
  go_wp2_with fail
  refine (C3.out _ K2.out.2.2.2.2.2.2.2.2.2.2.2.2.2.2).mono ?_
  rintro e w3 ⟨rfl, hb3⟩
  have K3 := Lib.hid ((Kp.two hb3 (Kp.two hb3 (Kp.two hb3 (Kp.two hb3 (Kp.two hb3 (Kp.two hb3 (Kp.one hb3 (Kp.ends hb3)))))))) K2.out)
  have z3 := K3.out
  have F3 := Kp.soft hb3 Z2 F2
  have Z3 : w.heap.size + 1 + 1 < w3.heap.size := Nat.lt_of_lt_of_le Z2 hb3.size
  clear hb3 z2 K2 F2 Z2
  have M3 := Lib.hid ((Kp.two (Kp.behind _ (.cells #[.int .i64 r.x1, .int .i64 r.y1, .int .i64 r.x2, .int .i64 r.y2] 23)) (Kp.two (Kp.behind _ (.cells #[.int .i64 r.x1, .int .i64 r.y1, .int .i64 r.x2, .int .i64 r.y2] 23)) (Kp.two (Kp.behind _ (.cells #[.int .i64 r.x1, .int .i64 r.y1, .int .i64 r.x2, .int .i64 r.y2] 23)) (Kp.two (Kp.behind _ (.cells #[.int .i64 r.x1, .int .i64 r.y1, .int .i64 r.x2, .int .i64 r.y2] 23)) (Kp.two (Kp.behind _ (.cells #[.int .i64 r.x1, .int .i64 r.y1, .int .i64 r.x2, .int .i64 r.y2] 23)) (Kp.two (Kp.behind _ (.cells #[.int .i64 r.x1, .int .i64 r.y1, .int .i64 r.x2, .int .i64 r.y2] 23)) (Kp.one (Kp.behind _ (.cells #[.int .i64 r.x1, .int .i64 r.y1, .int .i64 r.x2, .int .i64 r.y2] 23)) (fun h => Kp.adq0 h w3.heap.size rfl (.int .i64 r.x1) (.int .i64 r.y1) (.int .i64 r.x2) (.int .i64 r.y2) 23)))))))) K3.out)
  have u3 := M3.out
  have G3 := fa (.cells #[.int .i64 r.x1, .int .i64 r.y1, .int .i64 r.x2, .int .i64 r.y2] 23) Z3 F3
  have Y3 := la (.cells #[.int .i64 r.x1, .int .i64 r.y1, .int .i64 r.x2, .int .i64 r.y2] 23) Z3
  go_wp2_with fail
  refine (C4.out _).mono ?_
  rintro e w4 ⟨rfl, hb4⟩
  have K4 := Lib.hid ((Kp.two hb4 (Kp.two hb4 (Kp.two hb4 (Kp.two hb4 (Kp.two hb4 (Kp.two hb4 (Kp.two hb4 (Kp.two hb4 (Kp.one hb4 (Kp.ends hb4)))))))))) M3.out)
  have z4 := K4.out
  have F4 := Kp.soft hb4 Y3 G3
  have Z4 : w.heap.size + 1 + 1 < w4.heap.size := Nat.lt_of_lt_of_le Y3 hb4.size
  clear hb4 z3 u3 K3 F3 Z3 M3 G3 Y3
  go_wp2_with fail
  refine bodyPost_ret (v := .tuple #[.agg #[.int .i64 0, .int .i64 0, .int .i64 0, .int .i64 0], .bool false]) (by simp [results, Try.results8, go_sem, *]) rfl ⟨rfl, ?_⟩
  have B := K4.out.2.2.2.2.2.2.2.2.2.2.2.2.2.2.2.2.2.2
  exact ((((B.setCell (by simp; try omega) _).setCell (by simp; try omega) _).setCell (by simp; try omega) _).setCell (by simp; try omega) _)

set_option maxHeartbeats 2000000 in
set_option maxRecDepth 100000 in
theorem ref_yes (a b c d : Int) (l : List Pnt) (A : Option Addr) (k : Nat) (x1 y1 x2 y2 : Int) (w : World) (hA : PtsAt w w.heap.size A l) (hn : l.length ≤ 70) (hg : rgB a b c d l = true) (hb : rmayB x1 y1 x2 y2 = true) (hh : holdsB x1 y1 x2 y2 (rgX a b c d l).x1 (rgX a b c d l).y1 (rgX a b c d l).x2 (rgX a b c d l).y2 = true) :
    Calls Try.prog 8 #[.agg #[.int .i64 a, .int .i64 b, .int .i64 c, .int .i64 d, .slice A l.length k], .agg #[.int .i64 x1, .int .i64 y1, .int .i64 x2, .int .i64 y2]] w fun e w' => e = .returned (.tuple #[.agg #[.int .i64 (x1 - (rgX a b c d l).x1), .int .i64 (y1 - (rgX a b c d l).y1), .int .i64 (x2 - (rgX a b c d l).x2), .int .i64 (y2 - (rgX a b c d l).y2)], .bool true]) ∧ Below w.heap.size w w' := by
  have C1 := Lib.hid (fun W (h : Below w.heap.size w W) => refRegion_any a b c d l A k W ((hA.later h).wide h.size) hn)
  have C2 := Lib.hid (fun W => refRect_any x1 y1 x2 y2 W)
  have C3 := Lib.hid (fun W (h : Below w.heap.size w W) => refBox_any a b c d l A k W ((hA.later h).wide h.size) hn)
  have C4 := Lib.hid (fun W => refHolds_any x1 y1 x2 y2 (rgX a b c d l).x1 (rgX a b c d l).y1 (rgX a b c d l).x2 (rgX a b c d l).y2 W)
  have RM := rgX_may hg
  have BM := hb
  obtain ⟨p1, p2, p3, p4, p5, p6⟩ := rmayB_bd BM
  rw [hg] at C1
  rw [hb] at C2
  rw [hh] at C4
  clear hh
  obtain ⟨r, er⟩ : ∃ r, r = (rgX a b c d l) := ⟨_, rfl⟩
  rw [← er] at C3 C4 RM ⊢
  clear er
  obtain ⟨s1, s2, s3, s4, s5, s6⟩ := rmayB_bd RM
  have X1 := Lib.hid (wrap_less (x := x1) (y := r.x1) (by omega) (by omega))
  have X2 := Lib.hid (wrap_less (x := y1) (y := r.y1) (by omega) (by omega))
  have X3 := Lib.hid (wrap_less (x := x2) (y := r.x2) (by omega) (by omega))
  have X4 := Lib.hid (wrap_less (x := y2) (y := r.y2) (by omega) (by omega))
  clear RM BM p1 p2 p3 p4 p5 p6 s1 s2 s3 s4 s5 s6
  obtain ⟨n, e⟩ : ∃ n, n = l.length := ⟨_, rfl⟩
  rw [← e] at C1 C3 ⊢
  clear e
  clear hA hn hg hb
  have L0 := (fun h => Kp.ad50 h w.heap.size rfl (.int .i64 a) (.int .i64 b) (.int .i64 c) (.int .i64 d) (.slice A n k) 26) ⟨Nat.le_refl _, Below.refl w.heap.size w⟩
  have L1 := (Kp.two (Kp.behind _ (.cells #[.int .i64 x1, .int .i64 y1, .int .i64 x2, .int .i64 y2] 23)) (Kp.two (Kp.behind _ (.cells #[.int .i64 x1, .int .i64 y1, .int .i64 x2, .int .i64 y2] 23)) (Kp.one (Kp.behind _ (.cells #[.int .i64 x1, .int .i64 y1, .int .i64 x2, .int .i64 y2] 23)) (fun h => Kp.adq0 h (w.heap.size + 1) (by simp) (.int .i64 x1) (.int .i64 y1) (.int .i64 x2) (.int .i64 y2) 23)))) L0
  have L2 := (Kp.two (Kp.behind _ (.cells #[.int .i64 0, .int .i64 0, .int .i64 0, .int .i64 0] 23)) (Kp.two (Kp.behind _ (.cells #[.int .i64 0, .int .i64 0, .int .i64 0, .int .i64 0] 23)) (Kp.two (Kp.behind _ (.cells #[.int .i64 0, .int .i64 0, .int .i64 0, .int .i64 0] 23)) (Kp.two (Kp.behind _ (.cells #[.int .i64 0, .int .i64 0, .int .i64 0, .int .i64 0] 23)) (Kp.one (Kp.behind _ (.cells #[.int .i64 0, .int .i64 0, .int .i64 0, .int .i64 0] 23)) (fun h => Kp.adq0 h (w.heap.size + 1 + 1) (by simp) (.int .i64 0) (.int .i64 0) (.int .i64 0) (.int .i64 0) 23)))))) L1
  have L := Lib.hid L2
  clear L0 L1 L2
  have z := L.out
  have F0 : ∀ o, (((w.alloc (.cells #[.int .i64 a, .int .i64 b, .int .i64 c, .int .i64 d, .slice A n k] 26)).alloc (.cells #[.int .i64 x1, .int .i64 y1, .int .i64 x2, .int .i64 y2] 23)).alloc (.cells #[.int .i64 0, .int .i64 0, .int .i64 0, .int .i64 0] 23)).frozen? ⟨w.heap.size + 1 + 1, o, none⟩ = false := Kp.newsoft _ _ (by simp) _ _
  have Z0 : w.heap.size + 1 + 1 < (((w.alloc (.cells #[.int .i64 a, .int .i64 b, .int .i64 c, .int .i64 d, .slice A n k] 26)).alloc (.cells #[.int .i64 x1, .int .i64 y1, .int .i64 x2, .int .i64 y2] 23)).alloc (.cells #[.int .i64 0, .int .i64 0, .int .i64 0, .int .i64 0] 23)).heap.size := by simp
  go_enter Try.func8, Try.ntmps8
  go_wp2_with fail
  refine (C1.out _ L.out.2.2.2.2.2.2.2.2.2.2.2.2.2.2).mono ?_
  rintro e w1 ⟨rfl, hb1⟩
  have K1 := Lib.hid ((Kp.two hb1 (Kp.two hb1 (Kp.two hb1 (Kp.two hb1 (Kp.two hb1 (Kp.two hb1 (Kp.one hb1 (Kp.ends hb1)))))))) L.out)
  have z1 := K1.out
  have F1 := Kp.soft hb1 Z0 F0
  have Z1 : w.heap.size + 1 + 1 < w1.heap.size := Nat.lt_of_lt_of_le Z0 hb1.size
  clear hb1 z L F0 Z0
  go_wp2_with fail
  refine (C2.out _).mono ?_
  rintro e w2 ⟨rfl, hb2⟩
  have K2 := Lib.hid ((Kp.two hb2 (Kp.two hb2 (Kp.two hb2 (Kp.two hb2 (Kp.two hb2 (Kp.two hb2 (Kp.one hb2 (Kp.ends hb2)))))))) K1.out)
  have z2 := K2.out
  have F2 := Kp.soft hb2 Z1 F1
  have Z2 : w.heap.size + 1 + 1 < w2.heap.size := Nat.lt_of_lt_of_le Z1 hb2.size
  clear hb2 z1 K1 F1 Z1
  go_wp2_with fail
  refine (C3.out _ K2.out.2.2.2.2.2.2.2.2.2.2.2.2.2.2).mono ?_
  rintro e w3 ⟨rfl, hb3⟩
  have K3 := Lib.hid ((Kp.two hb3 (Kp.two hb3 (Kp.two hb3 (Kp.two hb3 (Kp.two hb3 (Kp.two hb3 (Kp.one hb3 (Kp.ends hb3)))))))) K2.out)
  have z3 := K3.out
  have F3 := Kp.soft hb3 Z2 F2
  have Z3 : w.heap.size + 1 + 1 < w3.heap.size := Nat.lt_of_lt_of_le Z2 hb3.size
  clear hb3 z2 K2 F2 Z2
  have M3 := Lib.hid ((Kp.two (Kp.behind _ (.cells #[.int .i64 r.x1, .int .i64 r.y1, .int .i64 r.x2, .int .i64 r.y2] 23)) (Kp.two (Kp.behind _ (.cells #[.int .i64 r.x1, .int .i64 r.y1, .int .i64 r.x2, .int .i64 r.y2] 23)) (Kp.two (Kp.behind _ (.cells #[.int .i64 r.x1, .int .i64 r.y1, .int .i64 r.x2, .int .i64 r.y2] 23)) (Kp.two (Kp.behind _ (.cells #[.int .i64 r.x1, .int .i64 r.y1, .int .i64 r.x2, .int .i64 r.y2] 23)) (Kp.two (Kp.behind _ (.cells #[.int .i64 r.x1, .int .i64 r.y1, .int .i64 r.x2, .int .i64 r.y2] 23)) (Kp.two (Kp.behind _ (.cells #[.int .i64 r.x1, .int .i64 r.y1, .int .i64 r.x2, .int .i64 r.y2] 23)) (Kp.one (Kp.behind _ (.cells #[.int .i64 r.x1, .int .i64 r.y1, .int .i64 r.x2, .int .i64 r.y2] 23)) (fun h => Kp.adq0 h w3.heap.size rfl (.int .i64 r.x1) (.int .i64 r.y1) (.int .i64 r.x2) (.int .i64 r.y2) 23)))))))) K3.out)
  have u3 := M3.out
  have G3 := fa (.cells #[.int .i64 r.x1, .int .i64 r.y1, .int .i64 r.x2, .int .i64 r.y2] 23) Z3 F3
  have Y3 := la (.cells #[.int .i64 r.x1, .int .i64 r.y1, .int .i64 r.x2, .int .i64 r.y2] 23) Z3
  go_wp2_with fail
  refine (C4.out _).mono ?_
  rintro e w4 ⟨rfl, hb4⟩
  have K4 := Lib.hid ((Kp.two hb4 (Kp.two hb4 (Kp.two hb4 (Kp.two hb4 (Kp.two hb4 (Kp.two hb4 (Kp.two hb4 (Kp.two hb4 (Kp.one hb4 (Kp.ends hb4)))))))))) M3.out)
  have z4 := K4.out
  have F4 := Kp.soft hb4 Y3 G3
  have Z4 : w.heap.size + 1 + 1 < w4.heap.size := Nat.lt_of_lt_of_le Y3 hb4.size
  clear hb4 z3 u3 K3 F3 Z3 M3 G3 Y3
  have t1 := X1.out
  have t2 := X2.out
  have t3 := X3.out
  have t4 := X4.out
  clear X1 X2 X3 X4
  go_wp2_with fail
  refine bodyPost_ret (v := .tuple #[.agg #[.int .i64 (x1 - r.x1), .int .i64 (y1 - r.y1), .int .i64 (x2 - r.x2), .int .i64 (y2 - r.y2)], .bool true]) (by simp [results, Try.results8, go_sem, *]) rfl ⟨rfl, ?_⟩
  have B := K4.out.2.2.2.2.2.2.2.2.2.2.2.2.2.2.2.2.2.2
  exact ((((B.setCell (by simp; try omega) _).setCell (by simp; try omega) _).setCell (by simp; try omega) _).setCell (by simp; try omega) _)

theorem refZone_any (a b c d : Int) (l : List Pnt) (A : Option Addr) (k : Nat) (x1 y1 x2 y2 : Int) (w : World) (hA : PtsAt w w.heap.size A l) (hn : l.length ≤ 70) :
    Calls Try.prog 8 #[.agg #[.int .i64 a, .int .i64 b, .int .i64 c, .int .i64 d, .slice A l.length k], .agg #[.int .i64 x1, .int .i64 y1, .int .i64 x2, .int .i64 y2]] w fun e w' => e = .returned (.tuple #[.agg #[.int .i64 (zc (zB a b c d l x1 y1 x2 y2) (x1 - (rgX a b c d l).x1)), .int .i64 (zc (zB a b c d l x1 y1 x2 y2) (y1 - (rgX a b c d l).y1)), .int .i64 (zc (zB a b c d l x1 y1 x2 y2) (x2 - (rgX a b c d l).x2)), .int .i64 (zc (zB a b c d l x1 y1 x2 y2) (y2 - (rgX a b c d l).y2))], .bool (zB a b c d l x1 y1 x2 y2)]) ∧ Below w.heap.size w w' := by
  cases hg : rgB a b c d l
  · have e : zB a b c d l x1 y1 x2 y2 = false := by unfold zB; rw [hg]; rfl
    rw [e]
    exact ref_bad a b c d l A k x1 y1 x2 y2 w hA hn hg
  · cases hb : rmayB x1 y1 x2 y2
    · have e : zB a b c d l x1 y1 x2 y2 = false := by unfold zB; rw [hg, hb]; rfl
      rw [e]
      exact ref_box a b c d l A k x1 y1 x2 y2 w hA hn hg hb
    · cases hh : holdsB x1 y1 x2 y2 (rgX a b c d l).x1 (rgX a b c d l).y1 (rgX a b c d l).x2 (rgX a b c d l).y2
      · have e : zB a b c d l x1 y1 x2 y2 = false := by unfold zB; rw [hg, hb, hh]; rfl
        rw [e]
        exact ref_far a b c d l A k x1 y1 x2 y2 w hA hn hg hb hh
      · have e : zB a b c d l x1 y1 x2 y2 = true := by unfold zB; rw [hg, hb, hh]; rfl
        rw [e]
        exact ref_yes a b c d l A k x1 y1 x2 y2 w hA hn hg hb hh
end Go.Proofs.Ythakngphffoooaa.Zn
/-
  The sort of uint64: a row of numbers in one block, in a world that has come of another one by growth and by what was written into that block alone. No program here.
-/
namespace Go.Proofs.Ythakngphffoooaa.So
open Go.RowKit
set_option linter.unusedVariables false

/-- The row's cells hold d, and may be written. -/
abbrev HU (W : World) (blk off : Nat) (d : Array Int) : Prop := Sort.Holds (Value.int .u64) W blk off d
/-- W has come of w: nothing but the row's block has been written, and the row holds d. -/
def SU (w : World) (blk off : Nat) (d : Array Int) (W : World) : Prop := HU W blk off d ∧ w.grownBy W (some blk)

theorem grown_trans {a b c : World} {r : Option Nat} (h : a.grownBy b r) (k : b.grownBy c r) : a.grownBy c r :=
  ⟨k.os.trans h.os, k.tape.trans h.tape, k.output.trans h.output, Nat.le_trans h.size k.size,
    fun i hi hr => (k.block i (Nat.lt_of_lt_of_le hi h.size) hr).trans (h.block i hi hr)⟩
theorem grown_drewN {a b : World} {r : Option Nat} (h : a.grownBy b r) (n : Nat) : a.grownBy (b.drewN n) r := ⟨h.os, h.tape, h.output, h.size, h.block⟩
theorem grown_set {a b : World} {blk o : Nat} (h : a.grownBy b (some blk)) (v : Value) : a.grownBy (b.setCell ⟨blk, o, none⟩ v) (some blk) :=
  ⟨h.os, h.tape, h.output, by simpa using h.size, fun k hk hne => by
    rw [Below.heap_setCell b ⟨blk, o, none⟩ v k (fun e => hne (by rw [e]))]; exact h.block k hk hne⟩
theorem grown_any {a b : World} {r : Option Nat} (h : Below a.heap.size a b) : a.grownBy b r := ⟨h.os, h.tape, h.output, h.size, fun k hk _ => h.block k hk⟩

theorem SU.start {w : World} {blk off : Nat} {d : Array Int} (h : HU w blk off d) : SU w blk off d w := ⟨h, World.grownBy.refl _ _⟩
theorem SU.trans {w W V : World} {blk off : Nat} {d d' : Array Int} (h : SU w blk off d W) (k : SU W blk off d' V) : SU w blk off d' V := ⟨k.1, grown_trans h.2 k.2⟩
theorem SU.drewN {w W : World} {blk off : Nat} {d : Array Int} (h : SU w blk off d W) (n : Nat) : SU w blk off d (W.drewN n) := ⟨h.1, grown_drewN h.2 n⟩
theorem SU.drew {w W : World} {blk off : Nat} {d : Array Int} (h : SU w blk off d W) : SU w blk off d W.drew := ⟨h.1, grown_drewN h.2 1⟩
theorem SU.c {w W : World} {blk off : Nat} {d : Array Int} (h : SU w blk off d W) (t : Nat) (ht : t < d.size) : W.cell? ⟨blk, off + t, none⟩ = some (.int .u64 d[t]!) := (h.1 t ht).1
theorem SU.f {w W : World} {blk off : Nat} {d : Array Int} (h : SU w blk off d W) (t : Nat) (ht : t < d.size) : W.frozen? ⟨blk, off + t, none⟩ = false := (h.1 t ht).2
theorem HU.lt {W : World} {blk off : Nat} {d : Array Int} (h : HU W blk off d) (h0 : 0 < d.size) : blk < W.heap.size := World.block_lt_of_cell? W ⟨blk, off + 0, none⟩ (h 0 h0).1
theorem SU.swap {w W : World} {blk off : Nat} {d : Array Int} (h : SU w blk off d W) (i j : Nat) (hi : i < d.size) (hj : j < d.size) :
    SU w blk off (Sort.swp d i j) ((W.setCell ⟨blk, off + i, none⟩ (.int .u64 d[j]!)).setCell ⟨blk, off + j, none⟩ (.int .u64 d[i]!)) := by
  refine ⟨?_, grown_set (grown_set h.2 _) _⟩
  have e := Sort.putRow_swp (Value.int .u64) W blk off d i j hi hj
  rw [Sort.putRow_self _ W blk off d h.1] at e
  show Sort.Holds (Value.int .u64) _ blk off _
  rw [e]
  exact Sort.holds_putRow (Value.int .u64) W blk off d _ h.1 (Sort.size_swp d i j)
/-- As a walk leaves an exchange: draws ahead of it, one behind. -/
theorem SU.swapped {w W : World} {blk off : Nat} {d : Array Int} (h : SU w blk off d W) (i j : Nat) (hi : i < d.size) (hj : j < d.size) :
    SU w blk off (Sort.swp d i j) ((W.setCell ⟨blk, off + i, none⟩ (.int .u64 d[j]!)).setCell ⟨blk, off + j, none⟩ (.int .u64 d[i]!)).drew := (h.swap i j hi hj).drew
theorem SU.old {w W : World} {blk off : Nat} {d : Array Int} (h : SU w blk off d W) (i j : Nat) (hi : i < d.size) (hj : j < d.size) (v : Value) :
    ∃ u, (W.setCell ⟨blk, off + i, none⟩ v).cell? ⟨blk, off + j, none⟩ = some u := by
  by_cases e : i = j
  · subst e; exact ⟨v, World.cell?_setCell_same _ _ _ (h.c i hi)⟩
  · exact ⟨_, (World.cell?_setCell_other _ _ _ _ (by intro e'; simp only [Addr.mk.injEq] at e'; omega)).trans (h.c j hj)⟩
theorem SU.alloc {w W : World} {blk off : Nat} {d : Array Int} (h : SU w blk off d W) (hb : blk < W.heap.size) (o : Obj) : SU w blk off d (W.alloc o) :=
  ⟨fun t ht => by
    have e := Below.heap_alloc W o blk hb
    exact ⟨(World.cell?_of_block (w := W) (a := ⟨blk, off + t, none⟩) e).trans (h.c t ht), (World.frozen?_of_block (w := W) (a := ⟨blk, off + t, none⟩) e).trans (h.f t ht)⟩,
    grown_trans h.2 (World.grownBy_alloc W o _)⟩
/-- A block other than the row's is written, one that was not there at the beginning. -/
theorem SU.other {w W V : World} {blk off c : Nat} {d : Array Int} (h : SU w blk off d W) (hb : blk < W.heap.size) (hc : w.heap.size ≤ c) (hne : c ≠ blk) (hg : W.grownBy V (some c)) : SU w blk off d V := by
  have e : V.heap[blk]? = W.heap[blk]? := hg.block blk hb (by intro e; simp at e; exact hne e.symm)
  refine ⟨fun t ht => ⟨(World.cell?_of_block (w := W) (a := ⟨blk, off + t, none⟩) e).trans (h.c t ht), (World.frozen?_of_block (w := W) (a := ⟨blk, off + t, none⟩) e).trans (h.f t ht)⟩, ?_⟩
  exact ⟨hg.os.trans h.2.os, hg.tape.trans h.2.tape, hg.output.trans h.2.output, Nat.le_trans h.2.size hg.size, fun k hk hr =>
    (hg.block k (Nat.lt_of_lt_of_le hk h.2.size) (by intro e'; simp at e'; omega)).trans (h.2.block k hk hr)⟩
def nOf : Value → Nat | .int _ q => q.toNat | _ => 0
end Go.Proofs.Ythakngphffoooaa.So
namespace Go.Proofs.Ythakngphffoooaa.Cv
open Go.RowKit Go.Proofs.Ythakngphffoooaa.So
set_option linter.unusedVariables false

def u64s (xs : List Int) : List Value := xs.map (Value.int .u64)
theorem u64s_app (xs : List Int) (x : Int) : u64s (xs ++ [x]) = u64s xs ++ [.int .u64 x] := by simp [u64s]
theorem u64s_append (xs ys : List Int) : u64s (xs ++ ys) = u64s xs ++ u64s ys := by simp [u64s]
/-- v is a slice, not nil, that holds xs; its block was there below z. -/
def Rd (W : World) (z : Nat) (v : Value) (xs : List Int) : Prop :=
  ∃ b o cap : Nat, v = .slice (some ⟨b, o, none⟩) xs.length cap ∧ b < z ∧ z ≤ W.heap.size ∧ xs.length ≤ cap ∧ ∀ t (h : t < xs.length), W.cell? ⟨b, o + t, none⟩ = some (.int .u64 xs[t])
theorem Rd.later {W V : World} {z : Nat} {v : Value} {xs : List Int} (h : Rd W z v xs) (hB : Below z W V) : Rd V z v xs := by
  obtain ⟨b, o, cap, rfl, hb, hz, hc, hx⟩ := h
  exact ⟨b, o, cap, rfl, hb, Nat.le_trans hz hB.size, hc, fun t ht => (World.cell?_of_block (w := W) (a := ⟨b, o + t, none⟩) (hB.block b hb)).trans (hx t ht)⟩
theorem Rd.wide {W : World} {z z' : Nat} {v : Value} {xs : List Int} (h : Rd W z v xs) (h1 : z ≤ z') (h2 : z' ≤ W.heap.size) : Rd W z' v xs := by
  obtain ⟨b, o, cap, rfl, hb, hz, hc, hx⟩ := h
  exact ⟨b, o, cap, rfl, by omega, h2, hc, hx⟩
theorem own_lt {W : World} {base n : Nat} {t : TypeId} {v : Value} {xs : List Value} (h : W.ownsRow base t 1 v n xs) {g : Nat} (hg : v.ownBlock = some g) : base ≤ g ∧ g < W.heap.size := h.lt g hg
theorem own_later {W w1 : World} {base n : Nat} {t : TypeId} {v : Value} {xs : List Value} (h : W.ownsRow base t 1 v n xs) (hb : Below W.heap.size W w1) : w1.ownsRow base t 1 v n xs :=
  h.kept (row := none) ⟨hb.os, hb.tape, hb.output, hb.size, fun k hk _ => hb.block k hk⟩ (by cases v.ownBlock <;> simp)
theorem own_below {W w1 v : World} {n : Nat} {t : TypeId} {u : Value} {xs : List Value} (hB : Below v.heap.size v W) (h : W.ownsRow v.heap.size t 1 u n xs) (hg : W.grownBy w1 u.ownBlock) : Below v.heap.size v w1 :=
  hB.grown hg hB.size fun k hk => (own_lt h hk).1
theorem own_apart {W : World} {base n : Nat} {t : TypeId} {v : Value} {xs : List Value} (h : W.ownsRow base t 1 v n xs) : ∀ k, k < base → some k ≠ v.ownBlock := fun k hk e => by
  have := own_lt h e.symm
  omega
theorem drew_own {W : World} {base n : Nat} {t : TypeId} {v : Value} {xs : List Value} (h : W.ownsRow base t 1 v n xs) (q : Nat) : (W.drewN q).ownsRow base t 1 v n xs := h
theorem bdrew {B : Nat} {a w : World} (h : Below B a w) (n : Nat) : Below B a (w.drewN n) := ⟨h.os, h.tape, h.output, h.size, h.block⟩
/-- A slice of one's own that holds something is read. -/
theorem own_rd {W : World} {base : Nat} {t : TypeId} {v : Value} {xs : List Int} (h : W.ownsRow base t 1 v xs.length (u64s xs)) (h0 : 0 < xs.length) : Rd W W.heap.size v xs := by
  have h2 := h
  rcases h.2 with ⟨rfl, e⟩ | ⟨g, cap, cur, rfl, _, hh, hcap, _⟩
  · omega
  · refine ⟨g, 0, cap, rfl, (Array.getElem?_eq_some_iff.1 hh).1, Nat.le_refl _, by omega, fun k hk => ?_⟩
    have := h2.cellAt k (by omega)
    rw [Nat.zero_add, this]
    simp [u64s, hk]
/-- .. and may be written. -/
theorem own_hu {W : World} {base : Nat} {t : TypeId} {v : Value} {xs : List Int} (h : W.ownsRow base t 1 v xs.length (u64s xs)) (h0 : 0 < xs.length) : ∃ g cap, v = .slice (some ⟨g, 0, none⟩) xs.length cap ∧ base ≤ g ∧ g < W.heap.size ∧ xs.length ≤ cap ∧ HU W g 0 xs.toArray := by
  have h2 := h
  rcases h.2 with ⟨rfl, e⟩ | ⟨g, cap, cur, rfl, hb, hh, hcap, _⟩
  · omega
  · refine ⟨g, cap, rfl, hb, (Array.getElem?_eq_some_iff.1 hh).1, by omega, fun k hk => ?_⟩
    have hk2 : k < xs.length := by simpa using hk
    have := h2.cellAt k (by omega)
    rw [Nat.zero_add]
    refine ⟨?_, h2.frozenAt k⟩
    show W.cell? ⟨g, k, none⟩ = _
    rw [this]
    simp [u64s, hk2]
theorem one_u64 (xs : List Int) : ∀ u ∈ u64s xs, u.oneCell' = true := by
  intro u hu
  obtain ⟨x, _, rfl⟩ := List.mem_map.1 hu
  rfl
theorem rd_news {W : World} {b o : Nat} {xs : List Int} (hx : ∀ t (h : t < xs.length), W.cell? ⟨b, o + t, none⟩ = some (.int .u64 xs[t])) : ∀ j u, (u64s xs)[j]? = some u → W.cell? ((⟨b, o, none⟩ : Addr).add j) = some u := by
  intro j u hj
  have hl : j < xs.length := by
    have := (List.getElem?_eq_some_iff.1 hj).1
    simpa [u64s] using this
  have e : (u64s xs)[j]? = some (.int .u64 xs[j]) := by simp [u64s, hl]
  rw [e] at hj
  rw [← hj]
  by_cases hj0 : j = 0
  · subst hj0; simpa [Addr.add] using hx 0 hl
  · simpa [Addr.add, hj0] using hx j hl
/-- Rising. -/
def Up (xs : List Int) : Prop := xs.Pairwise (· ≤ ·)
theorem perm_up {xs ys : List Int} (h : xs.Perm ys) (h1 : Up xs) (h2 : Up ys) : xs = ys := by
  induction xs generalizing ys with
  | nil => exact (List.nil_perm.1 h).symm
  | cons x xs ih =>
    cases ys with
    | nil => exact absurd (List.perm_nil.1 h) (by simp)
    | cons y ys =>
      have hx : x = y := by
        have a1 := List.pairwise_cons.1 h1
        have a2 := List.pairwise_cons.1 h2
        have m1 : x ∈ y :: ys := h.subset (by simp)
        have m2 : y ∈ x :: xs := h.symm.subset (by simp)
        rcases List.mem_cons.1 m1 with e | m1
        · exact e
        · rcases List.mem_cons.1 m2 with e | m2
          · exact e.symm
          · have := a1.1 y m2; have := a2.1 x m1; omega
      subst hx
      rw [ih (List.Perm.cons_inv h) (List.pairwise_cons.1 h1).2 (List.pairwise_cons.1 h2).2]
end Go.Proofs.Ythakngphffoooaa.Cv
