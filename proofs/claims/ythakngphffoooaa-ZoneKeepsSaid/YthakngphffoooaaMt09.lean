/-
  Contracts of cover.Box and cover.Same. Memory that was there is left as it was.
-/
import Derived.Test.YthakngphffoooaaMt08
import Derived.Test.YthakngphffoooaaMt07
import Derived.Test.YthakngphffoooaaMt03
import Derived.Deep.RegionHeld3
import Derived.IntWalk
import Derived.Test.YthakngphffoooaaProg
import Derived.Test.YthakngphffoooaaMt04
import Derived.WalkKit
import Derived.WalkSpells
import Derived.RowKit3
import Derived.Below
import Derived.Lib.Hide
import Derived.LaidEql
import Derived.KernelRfl
import Derived.Test.YthakngphffoooaaMt06
/-
  Contracts of the functions of layer 2 (rect) that call others, and of their document's answers: May, Holds for any rectangles; Grow, Meet's and Join's document's answers for rectangles that may be. Memory that was there is left as it was.
-/
namespace Go.Proofs.Ythakngphffoooaa.Rc
open Go.RowKit Go.Proofs.Ythakngphffoooaa.Pt

set_option maxHeartbeats 1000000 in
theorem holds_any (ax1 ay1 ax2 ay2 bx1 by1 bx2 by2 : Int) (w : World) : Calls Try.prog 19 #[.agg #[.int .i64 ax1, .int .i64 ay1, .int .i64 ax2, .int .i64 ay2], .agg #[.int .i64 bx1, .int .i64 by1, .int .i64 bx2, .int .i64 by2]] w fun e w' => e = .returned (.bool (holdsB ax1 ay1 ax2 ay2 bx1 by1 bx2 by2)) ∧ Below w.heap.size w w' := by
  have L := Kp.adq4 (Kp.adq0 ⟨Nat.le_refl _, Below.refl w.heap.size w⟩ w.heap.size rfl (.int .i64 ax1) (.int .i64 ay1) (.int .i64 ax2) (.int .i64 ay2) 23) (w.heap.size + 1) (by simp) (.int .i64 bx1) (.int .i64 by1) (.int .i64 bx2) (.int .i64 by2) 23
  cases h1 : inB ax1 ay1 ax2 ay2 bx1 by1
  · rw [show holdsB ax1 ay1 ax2 ay2 bx1 by1 bx2 by2 = false by unfold holdsB; rw [h1]; rfl]
    go_enter Try.func19, Try.ntmps19
    go_wp2_with fail
    refine wp_region_held_drew (S := (fun W => W.cell? ⟨w.heap.size, 0, none⟩ = some (.int .i64 ax1) ∧ W.cell? ⟨w.heap.size, 1, none⟩ = some (.int .i64 ay1) ∧ W.cell? ⟨w.heap.size, 2, none⟩ = some (.int .i64 ax2) ∧ W.cell? ⟨w.heap.size, 3, none⟩ = some (.int .i64 ay2) ∧ W.cell? ⟨w.heap.size + 1, 0, none⟩ = some (.int .i64 bx1) ∧ W.cell? ⟨w.heap.size + 1, 1, none⟩ = some (.int .i64 by1) ∧ W.cell? ⟨w.heap.size + 1, 2, none⟩ = some (.int .i64 bx2) ∧ W.cell? ⟨w.heap.size + 1, 3, none⟩ = some (.int .i64 by2) ∧ w.heap.size ≤ W.heap.size ∧ Below w.heap.size w W)) (by kernel_rfl) (Kp.drew8 (by assumption)) (fun hHeld => ?_)
    refine wpAnyH_take (i := 0) (v := ?v0) rfl (by kernel_rfl) (by kernel_rfl) (by kernel_rfl) (fun _ _ _ h => h) (Or.inl ⟨by rfl, ?y0⟩) hHeld ?r0
    case y0 => (intro W hSw; simp only [List.getElem_toArray, List.getElem_cons_zero]; go_simp; try (with_reducible rfl))
    simp only [List.getElem_toArray, List.getElem_cons_zero, Act.put, List.setIfInBounds_toArray, List.set_cons_zero, List.set_cons_succ]
    refine wpAnyH_take (i := 1) (v := ?v1) rfl (by kernel_rfl) (by kernel_rfl) (by kernel_rfl) (fun _ _ _ h => h) (Or.inl ⟨by rfl, ?y1⟩) hHeld ?r1
    case y1 => (intro W hSw; simp only [List.getElem_toArray, List.getElem_cons_succ, List.getElem_cons_zero]; go_simp; try (with_reducible rfl))
    simp only [List.getElem_toArray, List.getElem_cons_succ, List.getElem_cons_zero, Act.put, List.setIfInBounds_toArray, List.set_cons_zero, List.set_cons_succ]
    refine wpAnyH_ready (rs := [2]) (by kernel_rfl) (by simp) (AllReadyH.cons rfl (fun K hK => ?_) AllReadyH.nil)
    simp only [List.getElem_toArray, List.getElem_cons_succ, List.getElem_cons_zero]
    go_simp
    (first | (go_at_call 33; refine (low_any _ _ _ _ _).mono ?_; rintro e w1 ⟨rfl, hb1⟩) | (go_at_call 34; refine (high_any _ _ _ _ _).mono ?_; rintro e w1 ⟨rfl, hb1⟩) | (go_at_call 36; refine (in_any _ _ _ _ _ _ _).mono ?_; rintro e w1 ⟨rfl, hb1⟩))
    try go_wp2_with fail
    refine hK.out _ _ (Kp.keep8 (by assumption) (by assumption)) (fun hHeld1 => ?_)
    clear hK K hHeld
    have hHeld := hHeld1; clear hHeld1
    try simp only [List.getElem_toArray, List.getElem_cons_succ, List.getElem_cons_zero, Act.put, List.setIfInBounds_toArray, List.set_cons_zero, List.set_cons_succ]
    refine wpAnyH_ready (rs := [3]) (by kernel_rfl) (by simp) (AllReadyH.cons rfl (fun K hK => ?_) AllReadyH.nil)
    simp only [List.getElem_toArray, List.getElem_cons_succ, List.getElem_cons_zero]
    go_simp
    (first | (go_at_call 33; refine (low_any _ _ _ _ _).mono ?_; rintro e w1 ⟨rfl, hb1⟩) | (go_at_call 34; refine (high_any _ _ _ _ _).mono ?_; rintro e w1 ⟨rfl, hb1⟩) | (go_at_call 36; refine (in_any _ _ _ _ _ _ _).mono ?_; rintro e w1 ⟨rfl, hb1⟩))
    try go_wp2_with fail
    refine hK.out _ _ (Kp.keep8 (by assumption) (by assumption)) (fun hHeld1 => ?_)
    clear hK K hHeld
    have hHeld := hHeld1; clear hHeld1
    try simp only [List.getElem_toArray, List.getElem_cons_succ, List.getElem_cons_zero, Act.put, List.setIfInBounds_toArray, List.set_cons_zero, List.set_cons_succ]
    refine wpAnyH_take (i := 4) (v := ?v4) rfl (by kernel_rfl) (by kernel_rfl) (by kernel_rfl) (fun _ _ _ h => h) (Or.inl ⟨by rfl, ?y4⟩) hHeld ?r4
    case y4 => (intro W hSw; simp only [List.getElem_toArray, List.getElem_cons_succ, List.getElem_cons_zero]; go_simp; try (with_reducible rfl))
    simp only [List.getElem_toArray, List.getElem_cons_succ, List.getElem_cons_zero, Act.put, List.setIfInBounds_toArray, List.set_cons_zero, List.set_cons_succ]
    refine wpAnyH_take (i := 5) (v := undef) rfl (by kernel_rfl) (by kernel_rfl) (by kernel_rfl) (fun _ _ _ h => h) (Or.inr ⟨by rfl, rfl⟩) hHeld ?_
    simp only [List.getElem_toArray, List.getElem_cons_succ, List.getElem_cons_zero, Act.put, List.setIfInBounds_toArray, List.set_cons_zero, List.set_cons_succ]
    refine wpAnyH_take (i := 6) (v := undef) rfl (by kernel_rfl) (by kernel_rfl) (by kernel_rfl) (fun _ _ _ h => h) (Or.inr ⟨by rfl, rfl⟩) hHeld ?_
    simp only [List.getElem_toArray, List.getElem_cons_succ, List.getElem_cons_zero, Act.put, List.setIfInBounds_toArray, List.set_cons_zero, List.set_cons_succ]
    refine wpAnyH_take (i := 7) (v := undef) rfl (by kernel_rfl) (by kernel_rfl) (by kernel_rfl) (fun _ _ _ h => h) (Or.inr ⟨by rfl, rfl⟩) hHeld ?_
    simp only [List.getElem_toArray, List.getElem_cons_succ, List.getElem_cons_zero, Act.put, List.setIfInBounds_toArray, List.set_cons_zero, List.set_cons_succ]
    refine wpAnyH_take (i := 8) (v := undef) rfl (by kernel_rfl) (by kernel_rfl) (by kernel_rfl) (fun _ _ _ h => h) (Or.inr ⟨by rfl, rfl⟩) hHeld ?_
    simp only [List.getElem_toArray, List.getElem_cons_succ, List.getElem_cons_zero, Act.put, List.setIfInBounds_toArray, List.set_cons_zero, List.set_cons_succ]
    refine wpAnyH_take (i := 9) (v := ?v9) rfl (by kernel_rfl) (by kernel_rfl) (by kernel_rfl) (fun _ _ _ h => h) (Or.inl ⟨by rfl, ?y9⟩) hHeld ?r9
    case y9 => (intro W hSw; simp only [List.getElem_toArray, List.getElem_cons_succ, List.getElem_cons_zero]; go_simp; try (with_reducible rfl))
    simp only [List.getElem_toArray, List.getElem_cons_succ, List.getElem_cons_zero, Act.put, List.setIfInBounds_toArray, List.set_cons_zero, List.set_cons_succ]
    refine wpAnyH_take (i := 10) (v := ?v10) rfl (by kernel_rfl) (by kernel_rfl) (by kernel_rfl) (fun _ _ _ h => h) (Or.inl ⟨by rfl, ?y10⟩) hHeld ?r10
    case y10 => (intro W hSw; simp only [List.getElem_toArray, List.getElem_cons_succ, List.getElem_cons_zero]; go_simp; try (with_reducible rfl))
    simp only [List.getElem_toArray, List.getElem_cons_succ, List.getElem_cons_zero, Act.put, List.setIfInBounds_toArray, List.set_cons_zero, List.set_cons_succ]
    refine wpAnyH_done (by kernel_rfl) ?_ _
    go_wp2_with fail
    go_ret
    exact ⟨rfl, Kp.end8 (by assumption)⟩
  rw [show holdsB ax1 ay1 ax2 ay2 bx1 by1 bx2 by2 = inB ax1 ay1 ax2 ay2 bx2 by2 by unfold holdsB; rw [h1]; rfl]
  go_enter Try.func19, Try.ntmps19
  go_wp2_with fail
  go_region_held3 (fun W => W.cell? ⟨w.heap.size, 0, none⟩ = some (.int .i64 ax1) ∧ W.cell? ⟨w.heap.size, 1, none⟩ = some (.int .i64 ay1) ∧ W.cell? ⟨w.heap.size, 2, none⟩ = some (.int .i64 ax2) ∧ W.cell? ⟨w.heap.size, 3, none⟩ = some (.int .i64 ay2) ∧ W.cell? ⟨w.heap.size + 1, 0, none⟩ = some (.int .i64 bx1) ∧ W.cell? ⟨w.heap.size + 1, 1, none⟩ = some (.int .i64 by1) ∧ W.cell? ⟨w.heap.size + 1, 2, none⟩ = some (.int .i64 bx2) ∧ W.cell? ⟨w.heap.size + 1, 3, none⟩ = some (.int .i64 by2) ∧ w.heap.size ≤ W.heap.size ∧ Below w.heap.size w W)
    (first | exact Kp.drew8 (by assumption) | exact Kp.keep8 (by assumption) (by assumption))
    (first | (go_at_call 33; refine (low_any _ _ _ _ _).mono ?_; rintro e w1 ⟨rfl, hb1⟩) | (go_at_call 34; refine (high_any _ _ _ _ _).mono ?_; rintro e w1 ⟨rfl, hb1⟩) | (go_at_call 36; refine (in_any _ _ _ _ _ _ _).mono ?_; rintro e w1 ⟨rfl, hb1⟩))
  go_wp2_with fail
  go_ret
  exact ⟨rfl, Kp.end8 (by assumption)⟩

end Go.Proofs.Ythakngphffoooaa.Rc
/-
  Contracts of layer 4 (morton): may and Side. Memory is left as it was.
-/
namespace Go.Proofs.Ythakngphffoooaa.Mo
open Go.RowKit Go.Proofs.Ythakngphffoooaa.Pt

theorem may_any (s : Int) (w : World) : Calls Try.prog 65 #[.int .i64 s] w fun e w' => e = .returned (.bool (shB s)) ∧ w = w' := by
  go_enter Try.func65, Try.ntmps65
  go_wp2
  all_goals (go_ret; exact ⟨by simp [shB, *] <;> omega, rfl⟩)

theorem side_any (s : Int) (w : World) : Calls Try.prog 54 #[.int .i64 s] w fun e w' => e = .returned (.int .i64 (sdI s)) ∧ w = w' := by
  cases h : shB s
  · rw [sdI_no h]
    go_enter Try.func54, Try.ntmps54
    go_wp2_with (go_at_call 65; refine (may_any _ _).mono ?_; rintro e w' ⟨rfl, rfl⟩)
    go_ret
    exact ⟨rfl, rfl⟩
  · obtain ⟨k, rfl, h1, h2⟩ := shB_nat h
    rcases (show k = 24 ∨ k = 25 ∨ k = 26 ∨ k = 27 ∨ k = 28 ∨ k = 29 ∨ k = 30 ∨ k = 31 by omega) with rfl | rfl | rfl | rfl | rfl | rfl | rfl | rfl
    all_goals
      go_enter Try.func54, Try.ntmps54
      go_wp2_with (go_at_call 65; refine (may_any _ _).mono ?_; rintro e w' ⟨rfl, rfl⟩)
      go_ret
      exact ⟨rfl, rfl⟩
end Go.Proofs.Ythakngphffoooaa.Mo
/-
  Contracts of layer 4 (morton): place and Cell. Memory that was there is left as it was.
-/
namespace Go.Proofs.Ythakngphffoooaa.Mo
open Go.RowKit Go.Proofs.Ythakngphffoooaa.Pt

theorem place_any (k : Nat) (n : Int) (w : World) (h1 : 24 ≤ k) (h2 : k ≤ 31) (hn : inR n = true) : Calls Try.prog 66 #[.int .i64 k, .int .i64 n] w fun e w' => e = .returned (.int .i64 (colI k n)) ∧ w = w' := by
  obtain ⟨_, _⟩ := inR_iff.1 hn
  go_enter Try.func66, Try.ntmps66
  go_wp2
  go_ret
  exact ⟨by simp [colI], rfl⟩

theorem cell_arg (s x y : Int) (w : World) (h : shB s = false) : Calls Try.prog 53 #[.int .i64 s, .agg #[.int .i64 x, .int .i64 y]] w fun e w' => e = .returned (.tuple #[.int .i64 0, .int .i64 0, .iface 37 (.int .i64 1)]) ∧ Below w.heap.size w w' := by
  go_enter Try.func53, Try.ntmps53
  go_wp2_with (go_at_call 65; refine (may_any _ _).mono ?_; rintro e w' ⟨rfl, rfl⟩)
  exact bodyPost_ret (v := .tuple #[.int .i64 0, .int .i64 0, .iface 37 (.int .i64 1)]) (by simp [results, Try.results53, go_sem]) rfl ⟨rfl, (Below.refl _ _).alloc (Nat.le_refl _) _⟩

theorem cell_far (s x y : Int) (w : World) (h : shB s = true) (hm : mayB x y = false) : Calls Try.prog 53 #[.int .i64 s, .agg #[.int .i64 x, .int .i64 y]] w fun e w' => e = .returned (.tuple #[.int .i64 0, .int .i64 0, .iface 37 (.int .i64 11)]) ∧ Below w.heap.size w w' := by
  go_enter Try.func53, Try.ntmps53
  go_wp2_with (first | (go_at_call 65; refine (may_any _ _).mono ?_; rintro e w' ⟨rfl, rfl⟩) | (go_at_call 32; refine (Pt.may_any _ _ _).mono ?_; rintro e w1 ⟨rfl, hb1⟩))
  refine bodyPost_ret (v := .tuple #[.int .i64 0, .int .i64 0, .iface 37 (.int .i64 11)]) (by simp [results, Try.results53, go_sem]) rfl ⟨rfl, ?_⟩
  exact ((Below.refl _ _).alloc (Nat.le_refl _) _).trans (hb1.mono (by simp))

theorem cell_yes (k : Nat) (x y : Int) (w : World) (h1 : 24 ≤ k) (h2 : k ≤ 31) (hm : mayB x y = true) : Calls Try.prog 53 #[.int .i64 k, .agg #[.int .i64 x, .int .i64 y]] w fun e w' => e = .returned (.tuple #[.int .i64 (colI k x), .int .i64 (colI k y), .nilIface]) ∧ Below w.heap.size w w' := by
  have h := shB_of h1 h2
  obtain ⟨r1, r2⟩ := mayB_bd hm
  have L := Lib.hid (Kp.add0 ⟨Nat.le_refl _, Below.refl w.heap.size w⟩ w.heap.size rfl (.int .i64 x) (.int .i64 y) 28)
  go_enter Try.func53, Try.ntmps53
  go_wp2_with (first | (go_at_call 65; refine (may_any _ _).mono ?_; rintro e w' ⟨rfl, rfl⟩) | (go_at_call 32; refine (Pt.may_any _ _ _).mono ?_; rintro e w1 ⟨rfl, hb1⟩))
  have K := Kp.keep2 hb1 L.out
  clear hb1 L
  go_region_held3 (fun W => W.cell? ⟨w.heap.size, 0, none⟩ = some (.int .i64 x) ∧ W.cell? ⟨w.heap.size, 1, none⟩ = some (.int .i64 y) ∧ w.heap.size ≤ W.heap.size ∧ Below w.heap.size w W)
    (first | exact Kp.drew2 (by assumption) | assumption)
    (first | (go_at_call 66; refine (place_any k _ _ h1 h2 (by assumption)).mono ?_; rintro e w2 ⟨rfl, rfl⟩))
  go_wp2_with fail
  exact bodyPost_ret (v := .tuple #[.int .i64 (colI k x), .int .i64 (colI k y), .nilIface]) (by simp [results, Try.results53, go_sem]) rfl ⟨rfl, Kp.end2 (by assumption)⟩
end Go.Proofs.Ythakngphffoooaa.Mo
/-
  Contract of cover.blockOf: the first and the last cell of a rectangle, or ErrArg. Memory that was there is left as it was.
-/
namespace Go.Proofs.Ythakngphffoooaa.Cv
open Go.RowKit Go.Proofs.Ythakngphffoooaa.Pt Go.Proofs.Ythakngphffoooaa.Rc Go.Proofs.Ythakngphffoooaa.Mo
set_option linter.unusedVariables false

theorem neq_arg_nil (w : World) : (binOp .neq 32 (.iface 37 (.int .i64 1)) .nilIface).run Try.prog w = .ok (.bool true) w := by kernel_rfl
theorem neq_nil_nil (w : World) : (binOp .neq 32 .nilIface .nilIface).run Try.prog w = .ok (.bool false) w := by kernel_rfl
theorem rmay_two {x1 y1 x2 y2 : Int} (h : rmayB x1 y1 x2 y2 = true) : mayB x1 y1 = true ∧ mayB x2 y2 = true := ⟨(rmayB_iff.1 h).1, (rmayB_iff.1 h).2.1⟩

theorem fz {W w1 : World} {b : Nat} (hb : Below W.heap.size W w1) (hlt : b < W.heap.size) (h : ∀ o, W.frozen? ⟨b, o, none⟩ = false) : ∀ o, w1.frozen? ⟨b, o, none⟩ = false :=
  fun o => (World.frozen?_of_block (w := W) (a := ⟨b, o, none⟩) (hb.block b hlt)).trans (h o)
set_option maxHeartbeats 1000000 in
theorem blk_bad (s x1 y1 x2 y2 : Int) (w : World) (h : rmayB x1 y1 x2 y2 = false) : Calls Try.prog 39 #[.int .i64 s, .agg #[.int .i64 x1, .int .i64 y1, .int .i64 x2, .int .i64 y2]] w fun e w' =>
    e = .returned (.tuple #[.agg #[.int .i64 0, .int .i64 0, .int .i64 0, .int .i64 0], .iface 37 (.int .i64 1)]) ∧ Below w.heap.size w w' := by
  have F0 : ∀ o, ((w.alloc (.cells #[.int .i64 x1, .int .i64 y1, .int .i64 x2, .int .i64 y2] 23)).alloc (.cells #[.int .i64 0, .int .i64 0, .int .i64 0, .int .i64 0] 60)).frozen? ⟨w.heap.size + 1, o, none⟩ = false := fun o => by simp
  have K0 := Lib.hid (Kp.adq4 (Kp.adq0 ⟨Nat.le_refl _, Below.refl w.heap.size w⟩ w.heap.size rfl (.int .i64 x1) (.int .i64 y1) (.int .i64 x2) (.int .i64 y2) 23) (w.heap.size + 1) (by simp) (.int .i64 0) (.int .i64 0) (.int .i64 0) (.int .i64 0) 60)
  go_enter Try.func39, Try.ntmps39
  go_wp2_with fail
  refine (rmay_any _ _ _ _ _).mono ?_
  rintro e w1 ⟨rfl, hb1⟩
  have K1 := Kp.keep8 hb1 K0.out
  have F1 := fz hb1 (by simp) F0
  have Z1 : w.heap.size + 1 < w1.heap.size := Nat.lt_of_lt_of_le (by simp) hb1.size
  clear K0 F0 hb1
  go_wp2_with fail
  refine bodyPost_ret (v := .tuple #[.agg #[.int .i64 0, .int .i64 0, .int .i64 0, .int .i64 0], .iface 37 (.int .i64 1)]) (by simp [results, Try.results39, go_sem, *]) rfl ⟨rfl, ?_⟩
  have B := Kp.end8 K1
  exact (((B.setCell (by simp) _).setCell (by simp) _).setCell (by simp) _).setCell (by simp) _

set_option maxHeartbeats 1000000 in
theorem blk_shift (s x1 y1 x2 y2 : Int) (w : World) (h : rmayB x1 y1 x2 y2 = true) (hs : shB s = false) : Calls Try.prog 39 #[.int .i64 s, .agg #[.int .i64 x1, .int .i64 y1, .int .i64 x2, .int .i64 y2]] w fun e w' =>
    e = .returned (.tuple #[.agg #[.int .i64 0, .int .i64 0, .int .i64 0, .int .i64 0], .iface 37 (.int .i64 1)]) ∧ Below w.heap.size w w' := by
  have q1 := neq_arg_nil
  have F0 : ∀ o, ((w.alloc (.cells #[.int .i64 x1, .int .i64 y1, .int .i64 x2, .int .i64 y2] 23)).alloc (.cells #[.int .i64 0, .int .i64 0, .int .i64 0, .int .i64 0] 60)).frozen? ⟨w.heap.size + 1, o, none⟩ = false := fun o => by simp
  have K0 := Lib.hid (Kp.adq4 (Kp.adq0 ⟨Nat.le_refl _, Below.refl w.heap.size w⟩ w.heap.size rfl (.int .i64 x1) (.int .i64 y1) (.int .i64 x2) (.int .i64 y2) 23) (w.heap.size + 1) (by simp) (.int .i64 0) (.int .i64 0) (.int .i64 0) (.int .i64 0) 60)
  go_enter Try.func39, Try.ntmps39
  go_wp2_with fail
  refine (rmay_any _ _ _ _ _).mono ?_
  rintro e w1 ⟨rfl, hb1⟩
  have K1 := Kp.keep8 hb1 K0.out
  have F1 := fz hb1 (by simp) F0
  have Z1 : w.heap.size + 1 < w1.heap.size := Nat.lt_of_lt_of_le (by simp) hb1.size
  clear K0 F0 hb1
  go_wp2_with fail
  refine (cell_arg _ _ _ _ hs).mono ?_
  rintro e w2 ⟨rfl, hb2⟩
  have K2 := Kp.keep8 hb2 K1
  have F2 := fz hb2 Z1 F1
  have Z2 := Nat.lt_of_lt_of_le Z1 hb2.size
  clear K1 F1 hb2 Z1
  go_wp2_with fail
  refine bodyPost_ret (v := .tuple #[.agg #[.int .i64 0, .int .i64 0, .int .i64 0, .int .i64 0], .iface 37 (.int .i64 1)]) (by simp [results, Try.results39, go_sem, *]) rfl ⟨rfl, ?_⟩
  have B := Kp.end8 K2
  exact (((B.setCell (by simp) _).setCell (by simp) _).setCell (by simp) _).setCell (by simp) _

set_option maxHeartbeats 1000000 in
theorem blk_yes (k : Nat) (x1 y1 x2 y2 : Int) (w : World) (h1 : 24 ≤ k) (h2 : k ≤ 31) (h : rmayB x1 y1 x2 y2 = true) : Calls Try.prog 39 #[.int .i64 k, .agg #[.int .i64 x1, .int .i64 y1, .int .i64 x2, .int .i64 y2]] w fun e w' =>
    e = .returned (.tuple #[.agg #[.int .i64 (colI k x1), .int .i64 (colI k y1), .int .i64 (colI k x2), .int .i64 (colI k y2)], .nilIface]) ∧ Below w.heap.size w w' := by
  have q4 := neq_nil_nil
  obtain ⟨m1, m2⟩ := rmay_two h
  have C1 := fun W => cell_yes k x1 y1 W h1 h2 m1
  have C2 := fun W => cell_yes k x2 y2 W h1 h2 m2
  obtain ⟨c1, e1⟩ : ∃ c, c = colI k x1 := ⟨_, rfl⟩
  obtain ⟨r1, e2⟩ : ∃ c, c = colI k y1 := ⟨_, rfl⟩
  obtain ⟨c2, e3⟩ : ∃ c, c = colI k x2 := ⟨_, rfl⟩
  obtain ⟨r2, e4⟩ : ∃ c, c = colI k y2 := ⟨_, rfl⟩
  simp only [← e1, ← e2] at C1
  simp only [← e3, ← e4] at C2
  rw [← e1, ← e2, ← e3, ← e4]
  clear e1 e2 e3 e4
  have F0 : ∀ o, ((w.alloc (.cells #[.int .i64 x1, .int .i64 y1, .int .i64 x2, .int .i64 y2] 23)).alloc (.cells #[.int .i64 0, .int .i64 0, .int .i64 0, .int .i64 0] 60)).frozen? ⟨w.heap.size + 1, o, none⟩ = false := fun o => by simp
  have K0 := Lib.hid (Kp.adq4 (Kp.adq0 ⟨Nat.le_refl _, Below.refl w.heap.size w⟩ w.heap.size rfl (.int .i64 x1) (.int .i64 y1) (.int .i64 x2) (.int .i64 y2) 23) (w.heap.size + 1) (by simp) (.int .i64 0) (.int .i64 0) (.int .i64 0) (.int .i64 0) 60)
  go_enter Try.func39, Try.ntmps39
  go_wp2_with fail
  refine (rmay_any _ _ _ _ _).mono ?_
  rintro e w1 ⟨rfl, hb1⟩
  have K1 := Kp.keep8 hb1 K0.out
  have F1 := fz hb1 (by simp) F0
  have Z1 : w.heap.size + 1 < w1.heap.size := Nat.lt_of_lt_of_le (by simp) hb1.size
  clear K0 F0 hb1
  go_wp2_with fail
  refine (C1 _).mono ?_
  rintro e w2 ⟨rfl, hb2⟩
  have K2 := Kp.keep8 hb2 K1
  have F2 := fz hb2 Z1 F1
  have Z2 := Nat.lt_of_lt_of_le Z1 hb2.size
  clear K1 F1 hb2 Z1
  go_wp2_with fail
  refine (C2 _).mono ?_
  rintro e w3 ⟨rfl, hb3⟩
  have K3 := Kp.keep8 hb3 K2
  have F3 := fz hb3 Z2 F2
  clear K2 F2 hb3 Z2
  go_wp2_with fail
  refine bodyPost_ret (v := .tuple #[.agg #[.int .i64 c1, .int .i64 r1, .int .i64 c2, .int .i64 r2], .nilIface]) (by simp [results, Try.results39, go_sem, *]) rfl ⟨rfl, ?_⟩
  have B := Kp.end8 K3
  exact (((B.setCell (by simp) _).setCell (by simp) _).setCell (by simp) _).setCell (by simp) _

theorem blk_no (s x1 y1 x2 y2 : Int) (w : World) (h : (shB s && rmayB x1 y1 x2 y2) = false) : Calls Try.prog 39 #[.int .i64 s, .agg #[.int .i64 x1, .int .i64 y1, .int .i64 x2, .int .i64 y2]] w fun e w' =>
    e = .returned (.tuple #[.agg #[.int .i64 0, .int .i64 0, .int .i64 0, .int .i64 0], .iface 37 (.int .i64 1)]) ∧ Below w.heap.size w w' := by
  cases hr : rmayB x1 y1 x2 y2
  · exact blk_bad s x1 y1 x2 y2 w hr
  · exact blk_shift s x1 y1 x2 y2 w hr (by simpa [hr] using h)
end Go.Proofs.Ythakngphffoooaa.Cv
/-
  Contracts of layer 4 (morton): below, span and Box. Memory that was there is left as it was.
-/
namespace Go.Proofs.Ythakngphffoooaa.Mo
open Go.RowKit Go.Proofs.Ythakngphffoooaa.Pt Go.Proofs.Ythakngphffoooaa.Rc

theorem below_any (n m : Int) (w : World) : Calls Try.prog 55 #[.int .i64 n, .int .i64 m] w fun e w' => e = .returned (.bool (belB n m)) ∧ w = w' := by
  go_enter Try.func55, Try.ntmps55
  go_wp2
  all_goals (go_ret; exact ⟨by simp [belB, *] <;> omega, rfl⟩)

theorem run_mnM (P : Program) (ts : Array TypeId) (t : TypeId) (x y : Int) (W : World) : (Builtin.min_ ts t #[.int .i64 x, .int .i64 y]).run P W = .ok (.int .i64 (mn x y)) W := run_min_int2 W ts t .i64 .i64 x y

theorem span_any (k : Nat) (n : Int) (w : World) (h1 : 24 ≤ k) (h2 : k ≤ 31) (hn : belB n (sideI k) = true) : Calls Try.prog 56 #[.int .i64 k, .int .i64 n] w fun e w' => e = .returned (.tuple #[.int .i64 (firI k n), .int .i64 (lasI k n)]) ∧ w = w' := by
  obtain ⟨n1, n2⟩ := belB_iff.1 hn
  obtain ⟨m1, m2⟩ := col_bd h2 n1 n2
  have hmn := run_mnM Try.prog
  unfold firI lasI
  unfold firI
  clear hn n1 n2
  rcases (show k = 24 ∨ k = 25 ∨ k = 26 ∨ k = 27 ∨ k = 28 ∨ k = 29 ∨ k = 30 ∨ k = 31 by omega) with rfl | rfl | rfl | rfl | rfl | rfl | rfl | rfl
  all_goals
    simp only [Int.reducePow] at m1 m2 ⊢
    go_enter Try.func56, Try.ntmps56
    go_wp2
    refine bodyPost_ret (by simp [results, Try.results56, go_sem]; rfl) rfl ⟨?_, rfl⟩
    first | rfl | rw [Int.sub_add_cancel]

theorem box_no (s c r : Int) (w : World) (h : (belB c (sdI s) && belB r (sdI s)) = false) : Calls Try.prog 40 #[.int .i64 s, .int .i64 c, .int .i64 r] w fun e w' => e = .returned (.tuple #[.agg #[.int .i64 0, .int .i64 0, .int .i64 0, .int .i64 0], .iface 37 (.int .i64 1)]) ∧ Below w.heap.size w w' := by
  cases h1 : belB c (sdI s)
  · go_enter Try.func40, Try.ntmps40
    go_wp2_with (first | (go_at_call 54; refine (side_any _ _).mono ?_; rintro e w' ⟨rfl, rfl⟩) | (go_at_call 55; refine (below_any _ _ _).mono ?_; rintro e w' ⟨rfl, rfl⟩))
    exact bodyPost_ret (v := .tuple #[.agg #[.int .i64 0, .int .i64 0, .int .i64 0, .int .i64 0], .iface 37 (.int .i64 1)]) (by simp [results, Try.results40, go_sem]) rfl ⟨rfl, (Below.refl _ _).alloc (Nat.le_refl _) _⟩
  · rw [h1, Bool.true_and] at h
    go_enter Try.func40, Try.ntmps40
    go_wp2_with (first | (go_at_call 54; refine (side_any _ _).mono ?_; rintro e w' ⟨rfl, rfl⟩) | (go_at_call 55; refine (below_any _ _ _).mono ?_; rintro e w' ⟨rfl, rfl⟩))
    exact bodyPost_ret (v := .tuple #[.agg #[.int .i64 0, .int .i64 0, .int .i64 0, .int .i64 0], .iface 37 (.int .i64 1)]) (by simp [results, Try.results40, go_sem]) rfl ⟨rfl, (Below.refl _ _).alloc (Nat.le_refl _) _⟩

theorem box_yes (k : Nat) (c r : Int) (w : World) (h1 : 24 ≤ k) (h2 : k ≤ 31) (hc : belB c (sideI k) = true) (hr : belB r (sideI k) = true) : Calls Try.prog 40 #[.int .i64 k, .int .i64 c, .int .i64 r] w fun e w' => e = .returned (.tuple #[.agg #[.int .i64 (firI k c), .int .i64 (firI k r), .int .i64 (lasI k c), .int .i64 (lasI k r)], .nilIface]) ∧ Below w.heap.size w w' := by
  have hs := sdI_yes h1 h2
  go_enter Try.func40, Try.ntmps40
  go_wp2_with (first | (go_at_call 54; refine (side_any _ _).mono ?_; rintro e w' ⟨rfl, rfl⟩) | (go_at_call 55; refine (below_any _ _ _).mono ?_; rintro e w' ⟨rfl, rfl⟩) | (go_at_call 56; refine (span_any k _ _ h1 h2 (by assumption)).mono ?_; rintro e w' ⟨rfl, rfl⟩))
  exact bodyPost_ret (v := .tuple #[.agg #[.int .i64 (firI k c), .int .i64 (firI k r), .int .i64 (lasI k c), .int .i64 (lasI k r)], .nilIface]) (by simp [results, Try.results40, go_sem]) rfl ⟨rfl, (Below.refl _ _).alloc (Nat.le_refl _) _⟩
end Go.Proofs.Ythakngphffoooaa.Mo
namespace Go.Proofs.Ythakngphffoooaa.Cv
open Go.RowKit Go.Proofs.Ythakngphffoooaa.Pt Go.Proofs.Ythakngphffoooaa.Rc Go.Proofs.Ythakngphffoooaa.Mo
set_option linter.unusedVariables false

theorem fa {W : World} {b : Nat} (o' : Obj) (hlt : b < W.heap.size) (h : ∀ o, W.frozen? ⟨b, o, none⟩ = false) : ∀ o, (W.alloc o').frozen? ⟨b, o, none⟩ = false := fz ((Below.refl _ _).alloc (Nat.le_refl _) _) hlt h
theorem la {W : World} {b : Nat} (o' : Obj) (hlt : b < W.heap.size) : b < (W.alloc o').heap.size := by simp; omega

set_option maxHeartbeats 1000000 in
theorem cbox_no (s x1 y1 x2 y2 : Int) (w : World) (h : (shB s && rmayB x1 y1 x2 y2) = false) : Calls Try.prog 24 #[.int .i64 s, .agg #[.int .i64 x1, .int .i64 y1, .int .i64 x2, .int .i64 y2]] w fun e w' =>
    e = .returned (.tuple #[.agg #[.int .i64 0, .int .i64 0, .int .i64 0, .int .i64 0], .iface 37 (.int .i64 1)]) ∧ Below w.heap.size w w' := by
  have q1 := neq_arg_nil
  have F0 : ∀ o, ((w.alloc (.cells #[.int .i64 x1, .int .i64 y1, .int .i64 x2, .int .i64 y2] 23)).alloc (.cells #[.int .i64 0, .int .i64 0, .int .i64 0, .int .i64 0] 23)).frozen? ⟨w.heap.size + 1, o, none⟩ = false := fun o => by simp
  have K0 := Lib.hid (Kp.adq0 (W := w.alloc (.cells #[.int .i64 x1, .int .i64 y1, .int .i64 x2, .int .i64 y2] 23)) ⟨by simp, (Below.refl w.heap.size w).alloc (Nat.le_refl _) _⟩ (w.heap.size + 1) (by simp) (.int .i64 0) (.int .i64 0) (.int .i64 0) (.int .i64 0) 23)
  go_enter Try.func24, Try.ntmps24
  go_wp2_with fail
  refine (blk_no s x1 y1 x2 y2 _ h).mono ?_
  rintro e w1 ⟨rfl, hb1⟩
  have L1 := Kp.keep4 hb1 K0.out
  have K1 := Kp.adq4 L1 w1.heap.size rfl (.int .i64 0) (.int .i64 0) (.int .i64 0) (.int .i64 0) 60
  have Z1 : w.heap.size + 1 < w1.heap.size := Nat.lt_of_lt_of_le (by simp) hb1.size
  have G1 := fz hb1 (by simp) F0
  have F1 := fa (.cells #[.int .i64 0, .int .i64 0, .int .i64 0, .int .i64 0] 60) Z1 G1
  clear K0 F0 hb1
  go_wp2_with fail
  refine bodyPost_ret (v := .tuple #[.agg #[.int .i64 0, .int .i64 0, .int .i64 0, .int .i64 0], .iface 37 (.int .i64 1)]) (by simp [results, Try.results24, go_sem, *]) rfl ⟨rfl, ?_⟩
  have B := Kp.end4 L1
  exact ((((B.setCell (by simp) _).setCell (by simp) _).setCell (by simp) _).setCell (by simp) _).alloc (by simp; omega) _

theorem box_join {k : Nat} {x1 y1 x2 y2 : Int} (h : rmayB x1 y1 x2 y2 = true) : mn (firI k (colI k x1)) (firI k (colI k x2)) = firI k (colI k x1) ∧ mn (firI k (colI k y1)) (firI k (colI k y2)) = firI k (colI k y1) ∧
    mx (lasI k (colI k x1)) (lasI k (colI k x2)) = lasI k (colI k x2) ∧ mx (lasI k (colI k y1)) (lasI k (colI k y2)) = lasI k (colI k y2) := by
  obtain ⟨a, b, c, d, e, f⟩ := rmayB_bd h
  exact ⟨mn_le (fir_mono (col_mono b)), mn_le (fir_mono (col_mono e)), mx_le (las_mono (col_mono b)), mx_le (las_mono (col_mono e))⟩

set_option maxHeartbeats 2000000 in
set_option maxRecDepth 100000 in
theorem cbox_yes (k : Nat) (x1 y1 x2 y2 : Int) (w : World) (h1 : 24 ≤ k) (h2 : k ≤ 31) (h : rmayB x1 y1 x2 y2 = true) : Calls Try.prog 24 #[.int .i64 k, .agg #[.int .i64 x1, .int .i64 y1, .int .i64 x2, .int .i64 y2]] w fun e w' =>
    e = .returned (.tuple #[.agg #[.int .i64 (firI k (colI k x1)), .int .i64 (firI k (colI k y1)), .int .i64 (lasI k (colI k x2)), .int .i64 (lasI k (colI k y2))], .nilIface]) ∧ Below w.heap.size w w' := by
  have q4 := neq_nil_nil
  obtain ⟨m1, m2⟩ := rmay_two h
  obtain ⟨j1, j2, j3, j4⟩ := box_join (k := k) h
  have C0 := Lib.hid (fun W => blk_yes k x1 y1 x2 y2 W h1 h2 h)
  have C1 := Lib.hid (fun W => box_yes k (colI k x1) (colI k y1) W h1 h2 (col_bel h2 m1).1 (col_bel h2 m1).2)
  have C2 := Lib.hid (fun W => box_yes k (colI k x2) (colI k y2) W h1 h2 (col_bel h2 m2).1 (col_bel h2 m2).2)
  have C3 := Lib.hid (fun W => join_any (firI k (colI k x1)) (firI k (colI k y1)) (lasI k (colI k x1)) (lasI k (colI k y1)) (firI k (colI k x2)) (firI k (colI k y2)) (lasI k (colI k x2)) (lasI k (colI k y2)) W)
  rw [j1, j2, j3, j4] at C3
  clear j1 j2 j3 j4
  obtain ⟨c1, e1⟩ : ∃ c, c = colI k x1 := ⟨_, rfl⟩
  obtain ⟨r1, e2⟩ : ∃ c, c = colI k y1 := ⟨_, rfl⟩
  obtain ⟨c2, e3⟩ : ∃ c, c = colI k x2 := ⟨_, rfl⟩
  obtain ⟨r2, e4⟩ : ∃ c, c = colI k y2 := ⟨_, rfl⟩
  rw [← e1, ← e2, ← e3, ← e4] at C0 C3 ⊢
  rw [← e1, ← e2] at C1
  rw [← e3, ← e4] at C2
  obtain ⟨f1, g1⟩ : ∃ c, c = firI k c1 := ⟨_, rfl⟩
  obtain ⟨f2, g2⟩ : ∃ c, c = firI k r1 := ⟨_, rfl⟩
  obtain ⟨f3, g3⟩ : ∃ c, c = lasI k c1 := ⟨_, rfl⟩
  obtain ⟨f4, g4⟩ : ∃ c, c = lasI k r1 := ⟨_, rfl⟩
  obtain ⟨l1, i1⟩ : ∃ c, c = firI k c2 := ⟨_, rfl⟩
  obtain ⟨l2, i2⟩ : ∃ c, c = firI k r2 := ⟨_, rfl⟩
  obtain ⟨l3, i3⟩ : ∃ c, c = lasI k c2 := ⟨_, rfl⟩
  obtain ⟨l4, i4⟩ : ∃ c, c = lasI k r2 := ⟨_, rfl⟩
  rw [← g1, ← g2, ← g3, ← g4, ← i1, ← i2, ← i3, ← i4] at C3
  rw [← g1, ← g2, ← g3, ← g4] at C1
  rw [← i1, ← i2, ← i3, ← i4] at C2
  rw [← g1, ← g2, ← i3, ← i4]
  clear e1 e2 e3 e4 g1 g2 g3 g4 i1 i2 i3 i4 m1 m2 h
  have F0 : ∀ o, ((w.alloc (.cells #[.int .i64 x1, .int .i64 y1, .int .i64 x2, .int .i64 y2] 23)).alloc (.cells #[.int .i64 0, .int .i64 0, .int .i64 0, .int .i64 0] 23)).frozen? ⟨w.heap.size + 1, o, none⟩ = false := fun o => by simp
  have K0 := Lib.hid (Kp.adq0 (W := w.alloc (.cells #[.int .i64 x1, .int .i64 y1, .int .i64 x2, .int .i64 y2] 23)) ⟨by simp, (Below.refl w.heap.size w).alloc (Nat.le_refl _) _⟩ (w.heap.size + 1) (by simp) (.int .i64 0) (.int .i64 0) (.int .i64 0) (.int .i64 0) 23)
  go_enter Try.func24, Try.ntmps24
  go_wp2_with fail
  refine (C0.out _).mono ?_
  rintro e w1 ⟨rfl, hb1⟩
  have L1 := Kp.keep4 hb1 K0.out
  have K1 := Kp.adq4 L1 w1.heap.size rfl (.int .i64 c1) (.int .i64 r1) (.int .i64 c2) (.int .i64 r2) 60
  have Z1 : w.heap.size + 1 < w1.heap.size := Nat.lt_of_lt_of_le (by simp) hb1.size
  have G1 := fz hb1 (by simp) F0
  have F1 := fa (.cells #[.int .i64 c1, .int .i64 r1, .int .i64 c2, .int .i64 r2] 60) Z1 G1
  have Y1 := la (.cells #[.int .i64 c1, .int .i64 r1, .int .i64 c2, .int .i64 r2] 60) Z1
  clear K0 F0 hb1 Z1
  go_wp2_with fail
  refine (C1.out _).mono ?_
  rintro e w2 ⟨rfl, hb2⟩
  have L2 := Kp.keep8 hb2 K1
  have K2 := Kp.adq8 L2 w2.heap.size rfl (.int .i64 f1) (.int .i64 f2) (.int .i64 f3) (.int .i64 f4) 23
  have Z2 : w.heap.size + 1 < w2.heap.size := Nat.lt_of_lt_of_le Y1 hb2.size
  have G2 := fz hb2 Y1 F1
  have F2 := fa (.cells #[.int .i64 f1, .int .i64 f2, .int .i64 f3, .int .i64 f4] 23) Z2 G2
  have Y2 := la (.cells #[.int .i64 f1, .int .i64 f2, .int .i64 f3, .int .i64 f4] 23) Z2
  clear K1 L1 F1 G1 hb2 Z2 Y1
  go_wp2_with fail
  refine (C2.out _).mono ?_
  rintro e w3 ⟨rfl, hb3⟩
  have L3 := Kp.keep12 hb3 K2
  have K3 := Kp.adq12 L3 w3.heap.size rfl (.int .i64 l1) (.int .i64 l2) (.int .i64 l3) (.int .i64 l4) 23
  have Z3 : w.heap.size + 1 < w3.heap.size := Nat.lt_of_lt_of_le Y2 hb3.size
  have G3 := fz hb3 Y2 F2
  have F3 := fa (.cells #[.int .i64 l1, .int .i64 l2, .int .i64 l3, .int .i64 l4] 23) Z3 G3
  have Y3 := la (.cells #[.int .i64 l1, .int .i64 l2, .int .i64 l3, .int .i64 l4] 23) Z3
  clear K2 L2 F2 G2 hb3 Z3 Y2
  go_wp2_with fail
  refine (C3.out _).mono ?_
  rintro e w4 ⟨rfl, hb4⟩
  have K4 := Kp.keep16 hb4 K3
  have F4 := fz hb4 Y3 F3
  clear K3 L3 F3 G3 hb4 Y3
  go_wp2_with fail
  refine bodyPost_ret (v := .tuple #[.agg #[.int .i64 f1, .int .i64 f2, .int .i64 l3, .int .i64 l4], .nilIface]) (by simp [results, Try.results24, go_sem, *]) rfl ⟨rfl, ?_⟩
  have B := Kp.end16 K4
  exact (((B.setCell (by simp) _).setCell (by simp) _).setCell (by simp) _).setCell (by simp) _
end Go.Proofs.Ythakngphffoooaa.Cv
