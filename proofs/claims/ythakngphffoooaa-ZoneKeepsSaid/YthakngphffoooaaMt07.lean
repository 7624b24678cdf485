/-
  Contracts of May of layer 2 (rect), and of the document's answers Rect and Holds. Memory that was there is left as it was.
-/
import Derived.Test.YthakngphffoooaaMt04
import Derived.Test.YthakngphffoooaaMt02
import Derived.Deep.RegionHeld3
import Derived.IntWalk
import Derived.Test.YthakngphffoooaaMt06
import Derived.Outline
import Derived.Test.YthakngphffoooaaMt03
/-
  Contracts of the document's answers On and Cross of layer 1 (point), for points that may be. Memory that was there is left as it was.
-/
namespace Go.Proofs.Ythakngphffoooaa.Pt
open Go.RowKit

theorem refOn_any (ax ay bx b2 cx cy : Int) (w : World) (ha : mayB ax ay = true) (hb : mayB bx b2 = true) (hc : mayB cx cy = true) :
    Calls Try.prog 42 #[.agg #[.int .i64 ax, .int .i64 ay], .agg #[.int .i64 bx, .int .i64 b2], .agg #[.int .i64 cx, .int .i64 cy]] w fun e w' => e = .returned (.bool (onB ax ay bx b2 cx cy)) ∧ Below w.heap.size w w' := by
  have T := Lib.hid (fun W => refTurn_any ax ay bx b2 cx cy W ha hb hc); clear ha hb hc
  by_cases h1 : (turnI ax ay bx b2 cx cy == 0) = true
  · rw [onB_of_turn h1]
    by_cases h2 : btw ax bx cx = true
    · rw [show boxB ax ay bx b2 cx cy = btw ay b2 cy by unfold boxB; rw [h2]; rfl]
      go_enter Try.func42, Try.ntmps42
      go_wp2_with (first | (go_at_call 57; refine (within_any _ _ _ _).mono ?_; rintro e w' ⟨rfl, rfl⟩) | (go_at_call 58; refine (T.out _).mono ?_; rintro e w1 ⟨rfl, hb1⟩; have B1 := Lib.hid (below3 hb1); clear hb1))
      go_ret
      exact ⟨rfl, B1.out⟩
    · have e2 : btw ax bx cx = false := by simpa using h2
      clear h2
      rw [show boxB ax ay bx b2 cx cy = false by unfold boxB; rw [e2]; rfl]
      go_enter Try.func42, Try.ntmps42
      go_wp2_with (first | (go_at_call 57; refine (within_any _ _ _ _).mono ?_; rintro e w' ⟨rfl, rfl⟩) | (go_at_call 58; refine (T.out _).mono ?_; rintro e w1 ⟨rfl, hb1⟩; have B1 := Lib.hid (below3 hb1); clear hb1))
      go_ret
      exact ⟨rfl, B1.out⟩
  · have h0 : (turnI ax ay bx b2 cx cy == 0) = false := by simpa using h1
    rw [onB_of_not h0]
    clear h1
    go_enter Try.func42, Try.ntmps42
    go_wp2_with (first | (go_at_call 57; refine (within_any _ _ _ _).mono ?_; rintro e w' ⟨rfl, rfl⟩) | (go_at_call 58; refine (T.out _).mono ?_; rintro e w1 ⟨rfl, hb1⟩; have B1 := Lib.hid (below3 hb1); clear hb1))
    go_ret
    exact ⟨rfl, B1.out⟩

theorem wrap_turns (ax ay bx b2 cx cy dx dy ex ey fx fy : Int) : IntKind.i64.wrap (turnI ax ay bx b2 cx cy * turnI dx dy ex ey fx fy) = turnI ax ay bx b2 cx cy * turnI dx dy ex ey fx fy := by
  have t1 := turnI_bd ax ay bx b2 cx cy
  have t2 := turnI_bd dx dy ex ey fx fy
  have t3 := mul_bd (x := turnI ax ay bx b2 cx cy) (y := turnI dx dy ex ey fx fy) (by omega) (by omega) (by omega) (by omega)
  exact IntWalk.i64_in _ (by omega)

theorem crossR_end {p q r s a : Bool} : (p || (q || (r || (s || a)))) = ((((p || q) || r) || s) || a) := by cases p <;> cases q <;> cases r <;> cases s <;> rfl

set_option maxHeartbeats 1000000 in
theorem refCross_any (ax ay bx b2 cx cy dx dy : Int) (w : World) (ha : mayB ax ay = true) (hb : mayB bx b2 = true) (hc : mayB cx cy = true) (hd : mayB dx dy = true) :
    Calls Try.prog 43 #[.agg #[.int .i64 ax, .int .i64 ay], .agg #[.int .i64 bx, .int .i64 b2], .agg #[.int .i64 cx, .int .i64 cy], .agg #[.int .i64 dx, .int .i64 dy]] w fun e w' => e = .returned (.bool (crossR ax ay bx b2 cx cy dx dy)) ∧ Below w.heap.size w w' := by
  have L := Kp.add6 (Kp.add4 (Kp.add2 (Kp.add0 ⟨Nat.le_refl _, Below.refl w.heap.size w⟩ w.heap.size rfl (.int .i64 ax) (.int .i64 ay) 28) (w.heap.size + 1) (by simp) (.int .i64 bx) (.int .i64 b2) 28) (w.heap.size + 1 + 1) (by simp) (.int .i64 cx) (.int .i64 cy) 28) (w.heap.size + 1 + 1 + 1) (by simp) (.int .i64 dx) (.int .i64 dy) 28
  have t1 := wrap_turns ax ay bx b2 cx cy ax ay bx b2 dx dy
  have t2 := wrap_turns cx cy dx dy ax ay cx cy dx dy bx b2
  by_cases h1 : (turnI ax ay bx b2 cx cy * turnI ax ay bx b2 dx dy == -1) = true
  · go_enter Try.func43, Try.ntmps43
    go_wp2_with (go_at_call 42; refine (refOn_any _ _ _ _ _ _ _ (by assumption) (by assumption) (by assumption)).mono ?_; rintro e w1 ⟨rfl, hb1⟩; have K1 := Kp.keep8 hb1 (by assumption); clear hb1)
    go_region_held3 (fun W => W.cell? ⟨w.heap.size, 0, none⟩ = some (.int .i64 ax) ∧ W.cell? ⟨w.heap.size, 1, none⟩ = some (.int .i64 ay) ∧ W.cell? ⟨w.heap.size + 1, 0, none⟩ = some (.int .i64 bx) ∧ W.cell? ⟨w.heap.size + 1, 1, none⟩ = some (.int .i64 b2) ∧ W.cell? ⟨w.heap.size + 1 + 1, 0, none⟩ = some (.int .i64 cx) ∧ W.cell? ⟨w.heap.size + 1 + 1, 1, none⟩ = some (.int .i64 cy) ∧ W.cell? ⟨w.heap.size + 1 + 1 + 1, 0, none⟩ = some (.int .i64 dx) ∧ W.cell? ⟨w.heap.size + 1 + 1 + 1, 1, none⟩ = some (.int .i64 dy) ∧ w.heap.size ≤ W.heap.size ∧ Below w.heap.size w W)
      (first | exact Kp.drew8 (by assumption) | exact Kp.keep8 (by assumption) (by assumption))
      (first | (go_at_call 58; refine (refTurn_any _ _ _ _ _ _ _ (by assumption) (by assumption) (by assumption)).mono ?_; rintro e w1 ⟨rfl, hb1⟩))
    go_wp2_with fail
    all_goals (go_ret; exact ⟨by simp [crossR, apartB, *], Kp.end8 (by assumption)⟩)
  · have e1 : (turnI ax ay bx b2 cx cy * turnI ax ay bx b2 dx dy == -1) = false := by simpa using h1
    clear h1
    go_enter Try.func43, Try.ntmps43
    go_wp2_with (go_at_call 42; refine (refOn_any _ _ _ _ _ _ _ (by assumption) (by assumption) (by assumption)).mono ?_; rintro e w1 ⟨rfl, hb1⟩; have K1 := Kp.keep8 hb1 (by assumption); clear hb1)
    refine wp_region_held_drew (S := (fun W => W.cell? ⟨w.heap.size, 0, none⟩ = some (.int .i64 ax) ∧ W.cell? ⟨w.heap.size, 1, none⟩ = some (.int .i64 ay) ∧ W.cell? ⟨w.heap.size + 1, 0, none⟩ = some (.int .i64 bx) ∧ W.cell? ⟨w.heap.size + 1, 1, none⟩ = some (.int .i64 b2) ∧ W.cell? ⟨w.heap.size + 1 + 1, 0, none⟩ = some (.int .i64 cx) ∧ W.cell? ⟨w.heap.size + 1 + 1, 1, none⟩ = some (.int .i64 cy) ∧ W.cell? ⟨w.heap.size + 1 + 1 + 1, 0, none⟩ = some (.int .i64 dx) ∧ W.cell? ⟨w.heap.size + 1 + 1 + 1, 1, none⟩ = some (.int .i64 dy) ∧ w.heap.size ≤ W.heap.size ∧ Below w.heap.size w W)) (by kernel_rfl) (Kp.drew8 (by assumption)) (fun hHeld => ?_)
    refine wpAnyH_take (i := 0) (v := ?v0) rfl (by kernel_rfl) (by kernel_rfl) (by kernel_rfl) (fun _ _ _ h => h) (Or.inl ⟨by rfl, ?y0⟩) hHeld ?r0
    case y0 => (intro W hSw; simp only [List.getElem_toArray, List.getElem_cons_zero]; go_simp; try (with_reducible rfl))
    simp only [List.getElem_toArray, List.getElem_cons_zero, Act.put, List.setIfInBounds_toArray, List.set_cons_zero, List.set_cons_succ]
    refine wpAnyH_take (i := 1) (v := ?v1) rfl (by kernel_rfl) (by kernel_rfl) (by kernel_rfl) (fun _ _ _ h => h) (Or.inl ⟨by rfl, ?y1⟩) hHeld ?r1
    case y1 => (intro W hSw; simp only [List.getElem_toArray, List.getElem_cons_succ, List.getElem_cons_zero]; go_simp; try (with_reducible rfl))
    simp only [List.getElem_toArray, List.getElem_cons_succ, List.getElem_cons_zero, Act.put, List.setIfInBounds_toArray, List.set_cons_zero, List.set_cons_succ]
    refine wpAnyH_take (i := 2) (v := ?v2) rfl (by kernel_rfl) (by kernel_rfl) (by kernel_rfl) (fun _ _ _ h => h) (Or.inl ⟨by rfl, ?y2⟩) hHeld ?r2
    case y2 => (intro W hSw; simp only [List.getElem_toArray, List.getElem_cons_succ, List.getElem_cons_zero]; go_simp; try (with_reducible rfl))
    simp only [List.getElem_toArray, List.getElem_cons_succ, List.getElem_cons_zero, Act.put, List.setIfInBounds_toArray, List.set_cons_zero, List.set_cons_succ]
    refine wpAnyH_take (i := 4) (v := ?v4) rfl (by kernel_rfl) (by kernel_rfl) (by kernel_rfl) (fun _ _ _ h => h) (Or.inl ⟨by rfl, ?y4⟩) hHeld ?r4
    case y4 => (intro W hSw; simp only [List.getElem_toArray, List.getElem_cons_succ, List.getElem_cons_zero]; go_simp; try (with_reducible rfl))
    simp only [List.getElem_toArray, List.getElem_cons_succ, List.getElem_cons_zero, Act.put, List.setIfInBounds_toArray, List.set_cons_zero, List.set_cons_succ]
    refine wpAnyH_take (i := 5) (v := ?v5) rfl (by kernel_rfl) (by kernel_rfl) (by kernel_rfl) (fun _ _ _ h => h) (Or.inl ⟨by rfl, ?y5⟩) hHeld ?r5
    case y5 => (intro W hSw; simp only [List.getElem_toArray, List.getElem_cons_succ, List.getElem_cons_zero]; go_simp; try (with_reducible rfl))
    simp only [List.getElem_toArray, List.getElem_cons_succ, List.getElem_cons_zero, Act.put, List.setIfInBounds_toArray, List.set_cons_zero, List.set_cons_succ]
    refine wpAnyH_take (i := 6) (v := ?v6) rfl (by kernel_rfl) (by kernel_rfl) (by kernel_rfl) (fun _ _ _ h => h) (Or.inl ⟨by rfl, ?y6⟩) hHeld ?r6
    case y6 => (intro W hSw; simp only [List.getElem_toArray, List.getElem_cons_succ, List.getElem_cons_zero]; go_simp; try (with_reducible rfl))
    simp only [List.getElem_toArray, List.getElem_cons_succ, List.getElem_cons_zero, Act.put, List.setIfInBounds_toArray, List.set_cons_zero, List.set_cons_succ]
    refine wpAnyH_ready (rs := [3]) (by kernel_rfl) (by simp) (AllReadyH.cons rfl (fun K hK => ?_) AllReadyH.nil)
    simp only [List.getElem_toArray, List.getElem_cons_succ, List.getElem_cons_zero]
    go_simp
    refine (refTurn_any _ _ _ _ _ _ _ (by assumption) (by assumption) (by assumption)).mono ?_
    rintro e w1 ⟨rfl, hb1⟩
    try go_wp2_with fail
    refine hK.out _ _ (Kp.keep8 hb1 hHeld) (fun hHeld1 => ?_)
    clear hK K hHeld
    have hHeld := hHeld1; clear hHeld1
    try simp only [List.getElem_toArray, List.getElem_cons_succ, List.getElem_cons_zero, Act.put, List.setIfInBounds_toArray, List.set_cons_zero, List.set_cons_succ]
    refine wpAnyH_ready (rs := [7]) (by kernel_rfl) (by simp) (AllReadyH.cons rfl (fun K hK => ?_) AllReadyH.nil)
    simp only [List.getElem_toArray, List.getElem_cons_succ, List.getElem_cons_zero]
    go_simp
    refine (refTurn_any _ _ _ _ _ _ _ (by assumption) (by assumption) (by assumption)).mono ?_
    rintro e w1 ⟨rfl, hb1⟩
    try go_wp2_with fail
    refine hK.out _ _ (Kp.keep8 hb1 hHeld) (fun hHeld1 => ?_)
    clear hK K hHeld
    have hHeld := hHeld1; clear hHeld1
    try simp only [List.getElem_toArray, List.getElem_cons_succ, List.getElem_cons_zero, Act.put, List.setIfInBounds_toArray, List.set_cons_zero, List.set_cons_succ]
    refine wpAnyH_take (i := 8) (v := ?v8) rfl (by kernel_rfl) (by kernel_rfl) (by kernel_rfl) (fun _ _ _ h => h) (Or.inl ⟨by rfl, ?y8⟩) hHeld ?r8
    case y8 => (intro W hSw; simp only [List.getElem_toArray, List.getElem_cons_succ, List.getElem_cons_zero]; go_simp; try (with_reducible rfl))
    simp only [List.getElem_toArray, List.getElem_cons_succ, List.getElem_cons_zero, Act.put, List.setIfInBounds_toArray, List.set_cons_zero, List.set_cons_succ]
    refine wpAnyH_take (i := 9) (v := ?v9) rfl (by kernel_rfl) (by kernel_rfl) (by kernel_rfl) (fun _ _ _ h => h) (Or.inl ⟨by rfl, ?y9⟩) hHeld ?r9
    case y9 => (intro W hSw; simp only [List.getElem_toArray, List.getElem_cons_succ, List.getElem_cons_zero]; go_simp; try (with_reducible rfl))
    simp only [List.getElem_toArray, List.getElem_cons_succ, List.getElem_cons_zero, Act.put, List.setIfInBounds_toArray, List.set_cons_zero, List.set_cons_succ]
    refine wpAnyH_take (i := 10) (v := ?v10) rfl (by kernel_rfl) (by kernel_rfl) (by kernel_rfl) (fun _ _ _ h => h) (Or.inl ⟨by rfl, ?y10⟩) hHeld ?r10
    case y10 => (intro W hSw; simp only [List.getElem_toArray, List.getElem_cons_succ, List.getElem_cons_zero]; go_simp; try (with_reducible rfl))
    simp only [List.getElem_toArray, List.getElem_cons_succ, List.getElem_cons_zero, Act.put, List.setIfInBounds_toArray, List.set_cons_zero, List.set_cons_succ]
    refine wpAnyH_take (i := 11) (v := undef) rfl (by kernel_rfl) (by kernel_rfl) (by kernel_rfl) (fun _ _ _ h => h) (Or.inr ⟨by rfl, rfl⟩) hHeld ?_
    simp only [List.getElem_toArray, List.getElem_cons_succ, List.getElem_cons_zero, Act.put, List.setIfInBounds_toArray, List.set_cons_zero, List.set_cons_succ]
    refine wpAnyH_take (i := 12) (v := undef) rfl (by kernel_rfl) (by kernel_rfl) (by kernel_rfl) (fun _ _ _ h => h) (Or.inr ⟨by rfl, rfl⟩) hHeld ?_
    simp only [List.getElem_toArray, List.getElem_cons_succ, List.getElem_cons_zero, Act.put, List.setIfInBounds_toArray, List.set_cons_zero, List.set_cons_succ]
    refine wpAnyH_take (i := 13) (v := undef) rfl (by kernel_rfl) (by kernel_rfl) (by kernel_rfl) (fun _ _ _ h => h) (Or.inr ⟨by rfl, rfl⟩) hHeld ?_
    simp only [List.getElem_toArray, List.getElem_cons_succ, List.getElem_cons_zero, Act.put, List.setIfInBounds_toArray, List.set_cons_zero, List.set_cons_succ]
    refine wpAnyH_take (i := 14) (v := undef) rfl (by kernel_rfl) (by kernel_rfl) (by kernel_rfl) (fun _ _ _ h => h) (Or.inr ⟨by rfl, rfl⟩) hHeld ?_
    simp only [List.getElem_toArray, List.getElem_cons_succ, List.getElem_cons_zero, Act.put, List.setIfInBounds_toArray, List.set_cons_zero, List.set_cons_succ]
    refine wpAnyH_take (i := 15) (v := undef) rfl (by kernel_rfl) (by kernel_rfl) (by kernel_rfl) (fun _ _ _ h => h) (Or.inr ⟨by rfl, rfl⟩) hHeld ?_
    simp only [List.getElem_toArray, List.getElem_cons_succ, List.getElem_cons_zero, Act.put, List.setIfInBounds_toArray, List.set_cons_zero, List.set_cons_succ]
    refine wpAnyH_take (i := 16) (v := undef) rfl (by kernel_rfl) (by kernel_rfl) (by kernel_rfl) (fun _ _ _ h => h) (Or.inr ⟨by rfl, rfl⟩) hHeld ?_
    simp only [List.getElem_toArray, List.getElem_cons_succ, List.getElem_cons_zero, Act.put, List.setIfInBounds_toArray, List.set_cons_zero, List.set_cons_succ]
    refine wpAnyH_take (i := 17) (v := undef) rfl (by kernel_rfl) (by kernel_rfl) (by kernel_rfl) (fun _ _ _ h => h) (Or.inr ⟨by rfl, rfl⟩) hHeld ?_
    simp only [List.getElem_toArray, List.getElem_cons_succ, List.getElem_cons_zero, Act.put, List.setIfInBounds_toArray, List.set_cons_zero, List.set_cons_succ]
    refine wpAnyH_take (i := 18) (v := undef) rfl (by kernel_rfl) (by kernel_rfl) (by kernel_rfl) (fun _ _ _ h => h) (Or.inr ⟨by rfl, rfl⟩) hHeld ?_
    simp only [List.getElem_toArray, List.getElem_cons_succ, List.getElem_cons_zero, Act.put, List.setIfInBounds_toArray, List.set_cons_zero, List.set_cons_succ]
    refine wpAnyH_take (i := 19) (v := undef) rfl (by kernel_rfl) (by kernel_rfl) (by kernel_rfl) (fun _ _ _ h => h) (Or.inr ⟨by rfl, rfl⟩) hHeld ?_
    simp only [List.getElem_toArray, List.getElem_cons_succ, List.getElem_cons_zero, Act.put, List.setIfInBounds_toArray, List.set_cons_zero, List.set_cons_succ]
    refine wpAnyH_take (i := 20) (v := undef) rfl (by kernel_rfl) (by kernel_rfl) (by kernel_rfl) (fun _ _ _ h => h) (Or.inr ⟨by rfl, rfl⟩) hHeld ?_
    simp only [List.getElem_toArray, List.getElem_cons_succ, List.getElem_cons_zero, Act.put, List.setIfInBounds_toArray, List.set_cons_zero, List.set_cons_succ]
    refine wpAnyH_take (i := 21) (v := ?v21) rfl (by kernel_rfl) (by kernel_rfl) (by kernel_rfl) (fun _ _ _ h => h) (Or.inl ⟨by rfl, ?y21⟩) hHeld ?r21
    case y21 => (intro W hSw; simp only [List.getElem_toArray, List.getElem_cons_succ, List.getElem_cons_zero]; go_simp; try (with_reducible rfl))
    simp only [List.getElem_toArray, List.getElem_cons_succ, List.getElem_cons_zero, Act.put, List.setIfInBounds_toArray, List.set_cons_zero, List.set_cons_succ]
    refine wpAnyH_take (i := 22) (v := ?v22) rfl (by kernel_rfl) (by kernel_rfl) (by kernel_rfl) (fun _ _ _ h => h) (Or.inl ⟨by rfl, ?y22⟩) hHeld ?r22
    case y22 => (intro W hSw; simp only [List.getElem_toArray, List.getElem_cons_succ, List.getElem_cons_zero]; go_simp; try (with_reducible rfl))
    simp only [List.getElem_toArray, List.getElem_cons_succ, List.getElem_cons_zero, Act.put, List.setIfInBounds_toArray, List.set_cons_zero, List.set_cons_succ]
    refine wpAnyH_done (by kernel_rfl) ?_ _
    go_wp2_with fail
    all_goals (go_ret; exact ⟨by simp [crossR, apartB, *], Kp.end8 (by assumption)⟩)
end Go.Proofs.Ythakngphffoooaa.Pt
/-
  The contract of the document's answer Simple of layer 3 (poly), for any list of at most 70 points. Memory that was there is left as it was.
-/
namespace Go.Proofs.Ythakngphffoooaa.Pl
open Go.RowKit Go.Proofs.Ythakngphffoooaa.Pt Go.Proofs.Ythakngphffoooaa.Rc Go.Proofs.Ythakngphffoooaa.Pts
set_option linter.unusedVariables false

theorem refSimple_few (A : Option Addr) (n c : Nat) (w : World) (h : n < 3) : Calls Try.prog 25 #[.slice A n c] w fun e w' => e = .returned (.bool false) ∧ Below w.heap.size w w' := by
  have h1 : (n : Int) < (3 : Int) := by omega
  go_enter Try.func25, Try.ntmps25
  go_wp2_with fail
  go_ret
  exact ⟨rfl, Below.refl _ _⟩
theorem refSimple_many (A : Option Addr) (n c : Nat) (w : World) (h : 64 < n) (hn : n ≤ 70) : Calls Try.prog 25 #[.slice A n c] w fun e w' => e = .returned (.bool false) ∧ Below w.heap.size w w' := by
  have h1 := decide_eq_false (show ¬ (n : Int) < (3 : Int) by omega)
  have h2 : (64 : Int) < (n : Int) := by omega
  go_enter Try.func25, Try.ntmps25
  go_wp2_with fail
  go_ret
  exact ⟨rfl, Below.refl _ _⟩

theorem refCross_b (ax ay bx b2 cx cy dx dy : Int) (w : World) (ha : mayB ax ay = true) (hb : mayB bx b2 = true) (hc : mayB cx cy = true) (hd : mayB dx dy = true) :
    Calls Try.prog 43 #[.agg #[.int .i64 ax, .int .i64 ay], .agg #[.int .i64 bx, .int .i64 b2], .agg #[.int .i64 cx, .int .i64 cy], .agg #[.int .i64 dx, .int .i64 dy]] w fun e w' => e = .returned (.bool (crossB ax ay bx b2 cx cy dx dy)) ∧ Below w.heap.size w w' := by
  have h := refCross_any ax ay bx b2 cx cy dx dy w ha hb hc hd
  rw [crossR_eq] at h
  exact h
def OwnRel (w : World) (l : List Pnt) (i : Value) (wr : World) : Prop := ∃ k : Nat, k ≤ l.length ∧ i = .int .i64 k ∧ anyTo (ownF l) k = false ∧ Below w.heap.size w wr
def SameRel (w : World) (l : List Pnt) (k : Nat) (i : Value) (wr : World) : Prop := ∃ j : Nat, j ≤ k ∧ i = .int .i64 j ∧ anyTo (sameF l k) j = false ∧ Below w.heap.size w wr
def EdgesRel (w : World) (l : List Pnt) (i : Value) (wr : World) : Prop := ∃ k : Nat, k ≤ l.length ∧ i = .int .i64 k ∧ anyTo (edgeF l) k = false ∧ Below w.heap.size w wr
def ApartRel (v : World) (l : List Pnt) (k : Nat) (i : Value) (wr : World) : Prop := ∃ j : Nat, j ≤ l.length ∧ i = .int .i64 j ∧ anyTo (apartF l k) j = false ∧ Below v.heap.size v wr
theorem own_all {l : List Pnt} {n : Nat} (hn : n = l.length) (h : anyTo (ownF l) n = false) : l.all pmay = true := by
  rw [List.all_eq_true]
  intro p hp
  obtain ⟨i, hi, rfl⟩ := List.getElem_of_mem hp
  have := (ownF_no.1 (anyTo_no.1 h i (by omega))).1
  rwa [at_nat hi] at this

set_option maxRecDepth 100000 in
set_option maxHeartbeats 4000000 in
theorem refSimple_mid (l : List Pnt) (A : Option Addr) (c : Nat) (w : World) (hA : PtsAt w w.heap.size A l) (h3 : 3 ≤ l.length) (hn : l.length ≤ 64) :
    Calls Try.prog 25 #[.slice A l.length c] w fun e w' => e = .returned (.bool (simpleR l)) ∧ Below w.heap.size w w' := by
  have h0 : 0 < l.length := by omega
  have R := Lib.hid (show simpleR l = (!anyTo (ownF l) l.length && !anyTo (edgeF l) l.length) by unfold simpleR; rw [decide_eq_true h3, decide_eq_true hn]; rfl)
  have HA := Lib.hid hA
  obtain ⟨b, off, rfl, hb, hc⟩ := hA (by intro h; subst h; simp at h0)
  have HC := Lib.hid hc
  have H0 := Lib.hid h0
  obtain ⟨n, e⟩ : ∃ n, n = l.length := ⟨_, rfl⟩
  rw [← e] at hn h3 h0 R ⊢
  have E := Lib.hid e
  clear e hA hc
  have h1 : (3 : Int) ≤ (n : Int) := by omega
  have h2 : (n : Int) ≤ 64 := by omega
  go_enter Try.func25, Try.ntmps25
  go_wp2_with fail
  go_loopw [4] (fun i wr => OwnRel w l i wr) (fun i _ => n - (intOf i).toNat)
  case atStart => exact ⟨0, Nat.zero_le _, rfl, rfl, Below.refl _ _⟩
  case round =>
    obtain ⟨k, hk, rfl, hno, hB⟩ := hrel
    have HN := Lib.hid hno
    clear hno
    by_cases hlt : k < n
    · have hkl : k < l.length := by rw [← E.out]; exact hlt
      obtain ⟨a, ha⟩ : ∃ a, a = at_ l (k : Int) := ⟨_, rfl⟩
      have c1 : wr.cell? ⟨b, off + k * 2, none⟩ = some (.int .i64 a.1) := by rw [ha, at_nat hkl]; exact (hB.cell (p := ⟨b, off + k * 2, none⟩) hb).trans (HC.out k hkl).1
      have c2 : wr.cell? ⟨b, off + k * 2 + 1, none⟩ = some (.int .i64 a.2) := by rw [ha, at_nat hkl]; exact (hB.cell (p := ⟨b, off + k * 2 + 1, none⟩) hb).trans (HC.out k hkl).2
      have HP := Lib.hid ha
      clear ha
      have hk0 : (0 : Int) ≤ (k : Int) := by omega
      have hk1 : (k : Int) < (n : Int) := by omega
      go_wp2_with fail
      refine (refMay_any _ _ _).mono ?_
      rintro e w2 ⟨rfl, hb2⟩
      have B2 := hB.trans (hb2.mono hB.size)
      clear hb2 c1 c2 hB
      cases hm : mayB a.1 a.2
      · go_wp2_with fail
        rw [R.out, show anyTo (ownF l) n = true from anyTo_yes hlt (by unfold ownF pmay; rw [← HP.out, hm]; rfl)]
        go_ret
        exact ⟨rfl, B2⟩
      · go_wp2_with fail
        go_loopw [6] (fun i wr => SameRel w l k i wr) (fun i _ => n - (intOf i).toNat)
        case atStart => exact ⟨0, Nat.zero_le _, rfl, rfl, B2⟩
        case round =>
          obtain ⟨j, hj, rfl, hno, hB⟩ := hrel
          have HM := Lib.hid hno
          clear hno B2
          by_cases hjt : j < k
          · have hjl : j < l.length := by omega
            obtain ⟨p, hp⟩ : ∃ p, p = at_ l (j : Int) := ⟨_, rfl⟩
            have K0 : wr.cell? ⟨b, off + k * 2, none⟩ = some (.int .i64 a.1) ∧ wr.cell? ⟨b, off + k * 2 + 1, none⟩ = some (.int .i64 a.2) ∧ wr.cell? ⟨b, off + j * 2, none⟩ = some (.int .i64 p.1) ∧ wr.cell? ⟨b, off + j * 2 + 1, none⟩ = some (.int .i64 p.2) := by
              rw [HP.out, at_nat hkl, hp, at_nat hjl]
              exact ⟨(hB.cell (p := ⟨b, off + k * 2, none⟩) hb).trans (HC.out k hkl).1, (hB.cell (p := ⟨b, off + k * 2 + 1, none⟩) hb).trans (HC.out k hkl).2, (hB.cell (p := ⟨b, off + j * 2, none⟩) hb).trans (HC.out j hjl).1, (hB.cell (p := ⟨b, off + j * 2 + 1, none⟩) hb).trans (HC.out j hjl).2⟩
            have HQ := Lib.hid hp
            clear hp
            have hj0 : (0 : Int) ≤ (j : Int) := by omega
            have hj1 : (j : Int) < (n : Int) := by omega
            have hj2 : (j : Int) < (k : Int) := by omega
            go_wp2_with fail
            refine wp_region_held_drew (S := (fun W => W.cell? ⟨b, off + k * 2, none⟩ = some (.int .i64 a.1) ∧ W.cell? ⟨b, off + k * 2 + 1, none⟩ = some (.int .i64 a.2) ∧ W.cell? ⟨b, off + j * 2, none⟩ = some (.int .i64 p.1) ∧ W.cell? ⟨b, off + j * 2 + 1, none⟩ = some (.int .i64 p.2))) (by kernel_rfl) K0 (fun hHeld => ?_)
            refine wpAnyH_take (i := 0) (v := ?vE0) rfl (by kernel_rfl) (by kernel_rfl) (by kernel_rfl) (fun _ _ _ h => h) (Or.inl ⟨by rfl, ?yE0⟩) hHeld ?rE0
            case yE0 => (intro W hSw; simp only [List.getElem_toArray, List.getElem_cons_zero]; go_simp; try (with_reducible rfl))
            simp only [List.getElem_toArray, List.getElem_cons_zero, Act.put, List.setIfInBounds_toArray, List.set_cons_zero, List.set_cons_succ]
            refine wpAnyH_take (i := 1) (v := ?vE1) rfl (by kernel_rfl) (by kernel_rfl) (by kernel_rfl) (fun _ _ _ h => h) (Or.inl ⟨by rfl, ?yE1⟩) hHeld ?rE1
            case yE1 => (intro W hSw; simp only [List.getElem_toArray, List.getElem_cons_succ, List.getElem_cons_zero]; go_simp; try (with_reducible rfl))
            simp only [List.getElem_toArray, List.getElem_cons_succ, List.getElem_cons_zero, Act.put, List.setIfInBounds_toArray, List.set_cons_zero, List.set_cons_succ]
            refine wpAnyH_take (i := 2) (v := ?vE2) rfl (by kernel_rfl) (by kernel_rfl) (by kernel_rfl) (fun _ _ _ h => h) (Or.inl ⟨by rfl, ?yE2⟩) hHeld ?rE2
            case yE2 => (intro W hSw; simp only [List.getElem_toArray, List.getElem_cons_succ, List.getElem_cons_zero]; go_simp; try (with_reducible rfl))
            simp only [List.getElem_toArray, List.getElem_cons_succ, List.getElem_cons_zero, Act.put, List.setIfInBounds_toArray, List.set_cons_zero, List.set_cons_succ]
            refine wpAnyH_take (i := 3) (v := ?vE3) rfl (by kernel_rfl) (by kernel_rfl) (by kernel_rfl) (fun _ _ _ h => h) (Or.inl ⟨by rfl, ?yE3⟩) hHeld ?rE3
            case yE3 => (intro W hSw; simp only [List.getElem_toArray, List.getElem_cons_succ, List.getElem_cons_zero]; go_simp; try (with_reducible rfl))
            simp only [List.getElem_toArray, List.getElem_cons_succ, List.getElem_cons_zero, Act.put, List.setIfInBounds_toArray, List.set_cons_zero, List.set_cons_succ]
            refine wpAnyH_take (i := 4) (v := ?vE4) rfl (by kernel_rfl) (by kernel_rfl) (by kernel_rfl) (fun _ _ _ h => h) (Or.inl ⟨by rfl, ?yE4⟩) hHeld ?rE4
            case yE4 => (intro W hSw; simp only [List.getElem_toArray, List.getElem_cons_succ, List.getElem_cons_zero]; go_simp; try (with_reducible rfl))
            simp only [List.getElem_toArray, List.getElem_cons_succ, List.getElem_cons_zero, Act.put, List.setIfInBounds_toArray, List.set_cons_zero, List.set_cons_succ]
            refine wpAnyH_take (i := 5) (v := ?vE5) rfl (by kernel_rfl) (by kernel_rfl) (by kernel_rfl) (fun _ _ _ h => h) (Or.inl ⟨by rfl, ?yE5⟩) hHeld ?rE5
            case yE5 => (intro W hSw; simp only [List.getElem_toArray, List.getElem_cons_succ, List.getElem_cons_zero]; go_simp; try (with_reducible rfl))
            simp only [List.getElem_toArray, List.getElem_cons_succ, List.getElem_cons_zero, Act.put, List.setIfInBounds_toArray, List.set_cons_zero, List.set_cons_succ]
            refine wpAnyH_take (i := 6) (v := ?vE6) rfl (by kernel_rfl) (by kernel_rfl) (by kernel_rfl) (fun _ _ _ h => h) (Or.inl ⟨by rfl, ?yE6⟩) hHeld ?rE6
            case yE6 => (intro W hSw; simp only [List.getElem_toArray, List.getElem_cons_succ, List.getElem_cons_zero]; go_simp; try (with_reducible rfl))
            simp only [List.getElem_toArray, List.getElem_cons_succ, List.getElem_cons_zero, Act.put, List.setIfInBounds_toArray, List.set_cons_zero, List.set_cons_succ]
            refine wpAnyH_take (i := 7) (v := ?vE7) rfl (by kernel_rfl) (by kernel_rfl) (by kernel_rfl) (fun _ _ _ h => h) (Or.inl ⟨by rfl, ?yE7⟩) hHeld ?rE7
            case yE7 => (intro W hSw; simp only [List.getElem_toArray, List.getElem_cons_succ, List.getElem_cons_zero]; go_simp; try (with_reducible rfl))
            simp only [List.getElem_toArray, List.getElem_cons_succ, List.getElem_cons_zero, Act.put, List.setIfInBounds_toArray, List.set_cons_zero, List.set_cons_succ]
            refine wpAnyH_take (i := 8) (v := .bool (decide (a = p))) rfl (by kernel_rfl) (by kernel_rfl) (by kernel_rfl) (fun _ _ _ h => h) (Or.inl ⟨by rfl, ?yE8⟩) hHeld ?rE8
            case yE8 => (intro W hSw; simp only [List.getElem_toArray, List.getElem_cons_succ, List.getElem_cons_zero]; go_simp; (by_cases e1 : a.1 = p.1 <;> by_cases e2 : a.2 = p.2 <;> simp [e1, e2, Prod.ext_iff]))
            simp only [List.getElem_toArray, List.getElem_cons_succ, List.getElem_cons_zero, Act.put, List.setIfInBounds_toArray, List.set_cons_zero, List.set_cons_succ]
            refine wpAnyH_done (by kernel_rfl) ?_ _
            clear hHeld
            cases hh : decide (a = p)
            · go_wp2_with fail
              go_roundw
              case rel => exact ⟨j + 1, by omega, by go_num, anyTo_next HM.out (by unfold sameF; rw [← HP.out, ← HQ.out, hh]), hB.drew⟩
              case measure => simp [intOf]; omega
            · go_wp2_with fail
              rw [R.out, show anyTo (ownF l) n = true from anyTo_yes hlt (by unfold ownF; rw [show anyTo (sameF l k) k = true from anyTo_yes hjt (by unfold sameF; rw [← HP.out, ← HQ.out, hh])]; simp)]
              go_ret
              exact ⟨rfl, hB.drew⟩
          · have HT : Hid (ownF l k = false) := Lib.hid (by unfold ownF pmay; rw [← HP.out, hm, anyTo_le HM.out (by omega)]; rfl)
            have hj2 : ¬ (j : Int) < (k : Int) := by omega
            go_wp2_with fail
            go_roundw
            case rel => exact ⟨k + 1, by omega, by go_num, anyTo_next HN.out HT.out, hB⟩
            case measure => simp [intOf]; omega
    · have hkn : k = n := by have := E.out; omega
      rw [hkn] at HN
      have HM := Lib.hid (own_all E.out HN.out)
      clear hkn hk
      go_wp2_with fail
      go_loopw [7] (fun i wr => EdgesRel w l i wr) (fun i _ => n - (intOf i).toNat)
      case atStart => exact ⟨0, Nat.zero_le _, rfl, rfl, hB⟩
      case round =>
        clear hB
        obtain ⟨k, hk, rfl, hno, hB⟩ := hrel
        have HG := Lib.hid hno
        clear hno
        by_cases hlt : k < n
        · have hkl : k < l.length := by rw [← E.out]; exact hlt
          obtain ⟨b1, off1, r1, qx, qy, eA, _, hr1, hrl1, hX1, hY1, d1, d2⟩ := at_cell (HA.out.later hB) H0.out ((k : Int) + 1) (by omega)
          simp at eA
          obtain ⟨rfl, rfl⟩ := eA
          obtain ⟨b2, off2, r2, rx, ry, eA, _, hr2, hrl2, hX2, hY2, d3, d4⟩ := at_cell (HA.out.later hB) H0.out ((k : Int) + 2) (by omega)
          simp at eA
          obtain ⟨rfl, rfl⟩ := eA
          obtain ⟨a, ha⟩ : ∃ a, a = at_ l (k : Int) := ⟨_, rfl⟩
          obtain ⟨q, hq⟩ : ∃ q, q = at_ l ((k : Int) + 1) := ⟨_, rfl⟩
          obtain ⟨r, hr⟩ : ∃ r, r = at_ l ((k : Int) + 2) := ⟨_, rfl⟩
          rw [← hq] at hX1 hY1
          rw [← hr] at hX2 hY2
          subst hX1 hY1 hX2 hY2
          have c1 : wr.cell? ⟨b, off + k * 2, none⟩ = some (.int .i64 a.1) := by rw [ha, at_nat hkl]; exact (hB.cell (p := ⟨b, off + k * 2, none⟩) hb).trans (HC.out k hkl).1
          have c2 : wr.cell? ⟨b, off + k * 2 + 1, none⟩ = some (.int .i64 a.2) := by rw [ha, at_nat hkl]; exact (hB.cell (p := ⟨b, off + k * 2 + 1, none⟩) hb).trans (HC.out k hkl).2
          have m1 : mayB a.1 a.2 = true := by rw [ha]; exact all_any HM.out H0.out _
          have m2 : mayB q.1 q.2 = true := by rw [hq]; exact all_any HM.out H0.out _
          have m3 : mayB r.1 r.2 = true := by rw [hr]; exact all_any HM.out H0.out _
          have HP := Lib.hid ha
          have HQ := Lib.hid hq
          have HR := Lib.hid hr
          clear ha hq hr
          have K1 := Kp.add0 ⟨hB.size, hB⟩ wr.heap.size rfl (.int .i64 a.1) (.int .i64 a.2) 28
          have K2 := Kp.add2 K1 (wr.heap.size + 1) (by simp) (.int .i64 q.1) (.int .i64 q.2) 28
          have K3 := Lib.hid (Kp.add4 K2 (wr.heap.size + 1 + 1) (by simp) (.int .i64 r.1) (.int .i64 r.2) 28)
          have b1 : Below wr.heap.size wr (wr.alloc (.cells #[.int .i64 a.1, .int .i64 a.2] 28)) := (Below.refl _ _).alloc (Nat.le_refl _) _
          have b2 : Below wr.heap.size wr ((wr.alloc (.cells #[.int .i64 a.1, .int .i64 a.2] 28)).alloc (.cells #[.int .i64 q.1, .int .i64 q.2] 28)) := b1.alloc (by simp) _
          have d5 := cell_later b1 d1
          have d6 := cell_later b1 d2
          have d7 := cell_later b2 d3
          have d8 := cell_later b2 d4
          clear b1 b2 K1 K2 d1 d2 d3 d4
          have hn0 : (0 : Int) < (n : Int) := by omega
          have hk0 : (0 : Int) ≤ (k : Int) := by omega
          have hk1 : (k : Int) < (n : Int) := by omega
          rw [← E.out] at hr1 hrl1 hr2 hrl2
          have hr10 : (0 : Int) ≤ (r1 : Int) := by omega
          have hr11 : (r1 : Int) < (n : Int) := by omega
          have hr20 : (0 : Int) ≤ (r2 : Int) := by omega
          have hr21 : (r2 : Int) < (n : Int) := by omega
          have RR1 : Hid (r1 = (k + 1) % l.length) := Lib.hid (by
            obtain ⟨r', e1, e2, _⟩ := mod_of (j := k) h0
            rw [hr1] at e1
            rw [← E.out, ← e2]; omega)
          go_wp2_with fail
          refine (refOn_any _ _ _ _ _ _ _ m1 m2 m3).mono ?_
          rintro e w4 ⟨rfl, hb4⟩
          have K4 := Kp.keep6 hb4 K3.out
          clear hb4 K3 c1 c2 d5 d6 d7 d8
          go_wp2_with fail
          refine (refOn_any _ _ _ _ _ _ _ m2 m3 m1).mono ?_
          rintro e w5 ⟨rfl, hb5⟩
          have K5 := Kp.keep6 hb5 K4
          clear hb5 K4
          have T1 : turnF l k = (onB a.1 a.2 q.1 q.2 r.1 r.2 || onB q.1 q.2 r.1 r.2 a.1 a.2) := by unfold turnF onP; rw [← HP.out, ← HQ.out, ← HR.out]
          have T := Lib.hid T1
          clear T1
          cases hh : (onB a.1 a.2 q.1 q.2 r.1 r.2 || onB q.1 q.2 r.1 r.2 a.1 a.2)
          · rw [hh] at T
            rw [Bool.or_eq_false_iff] at hh
            obtain ⟨o1, o2⟩ := hh
            have B5 := Kp.end6 K5
            have V : Hid (∀ W, Below w5.heap.size w5 W → W.cell? ⟨wr.heap.size, 0, none⟩ = some (.int .i64 a.1) ∧ W.cell? ⟨wr.heap.size, 1, none⟩ = some (.int .i64 a.2) ∧ W.cell? ⟨wr.heap.size + 1, 0, none⟩ = some (.int .i64 q.1) ∧ W.cell? ⟨wr.heap.size + 1, 1, none⟩ = some (.int .i64 q.2)) := Lib.hid fun W h => ⟨cell_later h K5.1, cell_later h K5.2.1, cell_later h K5.2.2.1, cell_later h K5.2.2.2.1⟩
            clear K5
            go_wp2_with fail
            obtain ⟨v, hv⟩ : ∃ v, v = w5 := ⟨_, rfl⟩
            rw [← hv] at B5 V ⊢
            clear hv
            obtain ⟨g, hg⟩ : ∃ g, g = wr.heap.size := ⟨_, rfl⟩
            rw [← hg] at V ⊢
            clear hg hB
            go_loopw [13] (fun i wr => ApartRel v l k i wr) (fun i _ => n - (intOf i).toNat)
            case atStart => exact ⟨0, Nat.zero_le _, rfl, rfl, Below.refl _ _⟩
            case round =>
              obtain ⟨j, hj, rfl, hno, hB⟩ := hrel
              have HJ := Lib.hid hno
              clear hno
              by_cases hjt : j < n
              · have hjl : j < l.length := by rw [← E.out]; exact hjt
                have hBw := B5.trans (hB.mono B5.size)
                obtain ⟨b1, off1, r3, ux, uy, eA, _, hr3, hrl3, hX, hY, d1, d2⟩ := at_cell (HA.out.later hBw) H0.out ((j : Int) + 1) (by omega)
                simp at eA
                obtain ⟨rfl, rfl⟩ := eA
                obtain ⟨p, hp⟩ : ∃ p, p = at_ l (j : Int) := ⟨_, rfl⟩
                obtain ⟨u, hu⟩ : ∃ u, u = at_ l ((j : Int) + 1) := ⟨_, rfl⟩
                rw [← hu] at hX hY
                subst hX hY
                have c1 : wr.cell? ⟨b, off + j * 2, none⟩ = some (.int .i64 p.1) := by rw [hp, at_nat hjl]; exact (hBw.cell (p := ⟨b, off + j * 2, none⟩) hb).trans (HC.out j hjl).1
                have c2 : wr.cell? ⟨b, off + j * 2 + 1, none⟩ = some (.int .i64 p.2) := by rw [hp, at_nat hjl]; exact (hBw.cell (p := ⟨b, off + j * 2 + 1, none⟩) hb).trans (HC.out j hjl).2
                have m4 : mayB p.1 p.2 = true := by rw [hp]; exact all_any HM.out H0.out _
                have m5 : mayB u.1 u.2 = true := by rw [hu]; exact all_any HM.out H0.out _
                have K0 : Hid _ := Lib.hid (⟨(V.out _ hB).1, (V.out _ hB).2.1, (V.out _ hB).2.2.1, (V.out _ hB).2.2.2, c1, c2, d1, d2, hB.size, hB⟩ : wr.cell? ⟨g, 0, none⟩ = some (.int .i64 a.1) ∧ wr.cell? ⟨g, 1, none⟩ = some (.int .i64 a.2) ∧ wr.cell? ⟨g + 1, 0, none⟩ = some (.int .i64 q.1) ∧ wr.cell? ⟨g + 1, 1, none⟩ = some (.int .i64 q.2) ∧ wr.cell? ⟨b, off + j * 2, none⟩ = some (.int .i64 p.1) ∧ wr.cell? ⟨b, off + j * 2 + 1, none⟩ = some (.int .i64 p.2) ∧ wr.cell? ⟨b, off + r3 * 2, none⟩ = some (.int .i64 u.1) ∧ wr.cell? ⟨b, off + r3 * 2 + 1, none⟩ = some (.int .i64 u.2) ∧ v.heap.size ≤ wr.heap.size ∧ Below v.heap.size v wr)
                have X := Lib.hid (show crossE l k j = crossB a.1 a.2 q.1 q.2 p.1 p.2 u.1 u.2 by unfold crossE crossP; rw [HP.out, HQ.out, hp, hu])
                have hj0 : (0 : Int) ≤ (j : Int) := by omega
                have hj1 : (j : Int) < (n : Int) := by omega
                rw [← E.out] at hr3 hrl3
                have hr30 : (0 : Int) ≤ (r3 : Int) := by omega
                have hr31 : (r3 : Int) < (n : Int) := by omega
                have RR3 : Hid (r3 = (j + 1) % l.length) := Lib.hid (by
                  obtain ⟨r', e1, e2, _⟩ := mod_of (j := j) h0
                  rw [hr3] at e1
                  rw [← E.out, ← e2]; omega)
                have x1 := IntWalk.i64_in ((k : Int) + 1) (by omega)
                have x2 := IntWalk.i64_in ((j : Int) + 1) (by omega)
                clear hp hu c1 c2 d1 d2
                by_cases hskip : j = k ∨ j = r1 ∨ k = r3
                · have HF : Hid (apartF l k j = false) := Lib.hid (apartF_no.2 fun e1 e2 e3 => by
                    have := RR1.out; have := RR3.out
                    rcases hskip with h | h | h
                    · exact absurd h e1
                    · exact absurd (h.trans RR1.out) e2
                    · exact absurd (h.trans RR3.out) e3)
                  by_cases g1 : j = k
                  · have e1 : (j : Int) = (k : Int) := by omega
                    have f1 : ((j : Int) == (k : Int)) = true := by simpa using e1
                    clear K0 hskip e1 g1
                    go_wp2_with fail
                    go_roundw
                    case rel => exact ⟨j + 1, by omega, by go_num, anyTo_next HJ.out HF.out, hB⟩
                    case measure => simp [intOf]; omega
                  have e1 : ¬ (j : Int) = (k : Int) := by omega
                  have f1 : ((j : Int) == (k : Int)) = false := by simpa using e1
                  by_cases g2 : j = r1
                  · have e2 : (j : Int) = (r1 : Int) := by omega
                    have f2 : ((j : Int) == (r1 : Int)) = true := by simpa using e2
                    clear K0 hskip e2 g2 g1
                    go_wp2_with fail
                    go_roundw
                    case rel => exact ⟨j + 1, by omega, by go_num, anyTo_next HJ.out HF.out, hB⟩
                    case measure => simp [intOf]; omega
                  have e2 : ¬ (j : Int) = (r1 : Int) := by omega
                  have f2 : ((j : Int) == (r1 : Int)) = false := by simpa using e2
                  have g3 : k = r3 := by omega
                  have e3 : (k : Int) = (r3 : Int) := by omega
                  have f3 : ((k : Int) == (r3 : Int)) = true := by simpa using e3
                  clear K0 hskip e3 g3 g2 g1
                  go_wp2_with fail
                  go_roundw
                  case rel => exact ⟨j + 1, by omega, by go_num, anyTo_next HJ.out HF.out, hB⟩
                  case measure => simp [intOf]; omega
                · have HF : Hid (apartF l k j = crossB a.1 a.2 q.1 q.2 p.1 p.2 u.1 u.2) := Lib.hid (by
                    unfold apartF
                    rw [← RR1.out, ← RR3.out, decide_eq_false (show ¬ j = k by omega), decide_eq_false (show ¬ j = r1 by omega), decide_eq_false (show ¬ k = r3 by omega), X.out]; rfl)
                  have e1 : ¬ (j : Int) = (k : Int) := by omega
                  have e2 : ¬ (j : Int) = (r1 : Int) := by omega
                  have e3 : ¬ (k : Int) = (r3 : Int) := by omega
                  have f1 : ((j : Int) == (k : Int)) = false := by simpa using e1
                  have f2 : ((j : Int) == (r1 : Int)) = false := by simpa using e2
                  have f3 : ((k : Int) == (r3 : Int)) = false := by simpa using e3
                  have hnz : ¬ n = 0 := by omega
                  clear hskip
                  go_wp2_with fail
                  refine wp_region_held_drew (S := (fun W => W.cell? ⟨g, 0, none⟩ = some (.int .i64 a.1) ∧ W.cell? ⟨g, 1, none⟩ = some (.int .i64 a.2) ∧ W.cell? ⟨g + 1, 0, none⟩ = some (.int .i64 q.1) ∧ W.cell? ⟨g + 1, 1, none⟩ = some (.int .i64 q.2) ∧ W.cell? ⟨b, off + j * 2, none⟩ = some (.int .i64 p.1) ∧ W.cell? ⟨b, off + j * 2 + 1, none⟩ = some (.int .i64 p.2) ∧ W.cell? ⟨b, off + r3 * 2, none⟩ = some (.int .i64 u.1) ∧ W.cell? ⟨b, off + r3 * 2 + 1, none⟩ = some (.int .i64 u.2) ∧ v.heap.size ≤ W.heap.size ∧ Below v.heap.size v W)) (by kernel_rfl) (Kp.drew8 K0.out) (fun hHeld => ?_)
                  refine wpAnyH_take (i := 0) (v := ?vC0) rfl (by kernel_rfl) (by kernel_rfl) (by kernel_rfl) (fun _ _ _ h => h) (Or.inl ⟨by rfl, ?yC0⟩) hHeld ?rC0
                  case yC0 => (intro W hSw; simp only [List.getElem_toArray, List.getElem_cons_zero]; go_simp; try (with_reducible rfl))
                  simp only [List.getElem_toArray, List.getElem_cons_zero, Act.put, List.setIfInBounds_toArray, List.set_cons_zero, List.set_cons_succ]
                  refine wpAnyH_take (i := 1) (v := ?vC1) rfl (by kernel_rfl) (by kernel_rfl) (by kernel_rfl) (fun _ _ _ h => h) (Or.inl ⟨by rfl, ?yC1⟩) hHeld ?rC1
                  case yC1 => (intro W hSw; simp only [List.getElem_toArray, List.getElem_cons_succ, List.getElem_cons_zero]; go_simp; try (with_reducible rfl))
                  simp only [List.getElem_toArray, List.getElem_cons_succ, List.getElem_cons_zero, Act.put, List.setIfInBounds_toArray, List.set_cons_zero, List.set_cons_succ]
                  refine wpAnyH_take (i := 2) (v := ?vC2) rfl (by kernel_rfl) (by kernel_rfl) (by kernel_rfl) (fun _ _ _ h => h) (Or.inl ⟨by rfl, ?yC2⟩) hHeld ?rC2
                  case yC2 => (intro W hSw; simp only [List.getElem_toArray, List.getElem_cons_succ, List.getElem_cons_zero]; go_simp; try (with_reducible rfl))
                  simp only [List.getElem_toArray, List.getElem_cons_succ, List.getElem_cons_zero, Act.put, List.setIfInBounds_toArray, List.set_cons_zero, List.set_cons_succ]
                  refine wpAnyH_take (i := 3) (v := ?vC3) rfl (by kernel_rfl) (by kernel_rfl) (by kernel_rfl) (fun _ _ _ h => h) (Or.inl ⟨by rfl, ?yC3⟩) hHeld ?rC3
                  case yC3 => (intro W hSw; simp only [List.getElem_toArray, List.getElem_cons_succ, List.getElem_cons_zero]; go_simp; try (with_reducible rfl))
                  simp only [List.getElem_toArray, List.getElem_cons_succ, List.getElem_cons_zero, Act.put, List.setIfInBounds_toArray, List.set_cons_zero, List.set_cons_succ]
                  refine wpAnyH_take (i := 4) (v := ?vC4) rfl (by kernel_rfl) (by kernel_rfl) (by kernel_rfl) (fun _ _ _ h => h) (Or.inl ⟨by rfl, ?yC4⟩) hHeld ?rC4
                  case yC4 => (intro W hSw; simp only [List.getElem_toArray, List.getElem_cons_succ, List.getElem_cons_zero]; go_simp; try (with_reducible rfl))
                  simp only [List.getElem_toArray, List.getElem_cons_succ, List.getElem_cons_zero, Act.put, List.setIfInBounds_toArray, List.set_cons_zero, List.set_cons_succ]
                  refine wpAnyH_take (i := 5) (v := ?vC5) rfl (by kernel_rfl) (by kernel_rfl) (by kernel_rfl) (fun _ _ _ h => h) (Or.inl ⟨by rfl, ?yC5⟩) hHeld ?rC5
                  case yC5 => (intro W hSw; simp only [List.getElem_toArray, List.getElem_cons_succ, List.getElem_cons_zero]; go_simp; try (with_reducible rfl))
                  simp only [List.getElem_toArray, List.getElem_cons_succ, List.getElem_cons_zero, Act.put, List.setIfInBounds_toArray, List.set_cons_zero, List.set_cons_succ]
                  refine wpAnyH_take (i := 6) (v := ?vC6) rfl (by kernel_rfl) (by kernel_rfl) (by kernel_rfl) (fun _ _ _ h => h) (Or.inl ⟨by rfl, ?yC6⟩) hHeld ?rC6
                  case yC6 => (intro W hSw; simp only [List.getElem_toArray, List.getElem_cons_succ, List.getElem_cons_zero]; go_simp; try (with_reducible rfl))
                  simp only [List.getElem_toArray, List.getElem_cons_succ, List.getElem_cons_zero, Act.put, List.setIfInBounds_toArray, List.set_cons_zero, List.set_cons_succ]
                  refine wpAnyH_take (i := 7) (v := ?vC7) rfl (by kernel_rfl) (by kernel_rfl) (by kernel_rfl) (fun _ _ _ h => h) (Or.inl ⟨by rfl, ?yC7⟩) hHeld ?rC7
                  case yC7 => (intro W hSw; simp only [List.getElem_toArray, List.getElem_cons_succ, List.getElem_cons_zero]; go_simp; try (with_reducible rfl))
                  simp only [List.getElem_toArray, List.getElem_cons_succ, List.getElem_cons_zero, Act.put, List.setIfInBounds_toArray, List.set_cons_zero, List.set_cons_succ]
                  refine wpAnyH_take (i := 8) (v := ?vC8) rfl (by kernel_rfl) (by kernel_rfl) (by kernel_rfl) (fun _ _ _ h => h) (Or.inl ⟨by rfl, ?yC8⟩) hHeld ?rC8
                  case yC8 => (intro W hSw; simp only [List.getElem_toArray, List.getElem_cons_succ, List.getElem_cons_zero]; go_simp; try (with_reducible rfl))
                  simp only [List.getElem_toArray, List.getElem_cons_succ, List.getElem_cons_zero, Act.put, List.setIfInBounds_toArray, List.set_cons_zero, List.set_cons_succ]
                  refine wpAnyH_take (i := 9) (v := ?vC9) rfl (by kernel_rfl) (by kernel_rfl) (by kernel_rfl) (fun _ _ _ h => h) (Or.inl ⟨by rfl, ?yC9⟩) hHeld ?rC9
                  case yC9 => (intro W hSw; simp only [List.getElem_toArray, List.getElem_cons_succ, List.getElem_cons_zero]; go_simp; try (with_reducible rfl))
                  simp only [List.getElem_toArray, List.getElem_cons_succ, List.getElem_cons_zero, Act.put, List.setIfInBounds_toArray, List.set_cons_zero, List.set_cons_succ]
                  refine wpAnyH_take (i := 10) (v := ?vC10) rfl (by kernel_rfl) (by kernel_rfl) (by kernel_rfl) (fun _ _ _ h => h) (Or.inl ⟨by rfl, ?yC10⟩) hHeld ?rC10
                  case yC10 => (intro W hSw; simp only [List.getElem_toArray, List.getElem_cons_succ, List.getElem_cons_zero]; go_simp; try (with_reducible rfl))
                  simp only [List.getElem_toArray, List.getElem_cons_succ, List.getElem_cons_zero, Act.put, List.setIfInBounds_toArray, List.set_cons_zero, List.set_cons_succ]
                  refine wpAnyH_take (i := 11) (v := ?vC11) rfl (by kernel_rfl) (by kernel_rfl) (by kernel_rfl) (fun _ _ _ h => h) (Or.inl ⟨by rfl, ?yC11⟩) hHeld ?rC11
                  case yC11 => (intro W hSw; simp only [List.getElem_toArray, List.getElem_cons_succ, List.getElem_cons_zero]; go_simp; try (with_reducible rfl))
                  simp only [List.getElem_toArray, List.getElem_cons_succ, List.getElem_cons_zero, Act.put, List.setIfInBounds_toArray, List.set_cons_zero, List.set_cons_succ]
                  refine wpAnyH_take (i := 12) (v := ?vC12) rfl (by kernel_rfl) (by kernel_rfl) (by kernel_rfl) (fun _ _ _ h => h) (Or.inl ⟨by rfl, ?yC12⟩) hHeld ?rC12
                  case yC12 => (intro W hSw; simp only [List.getElem_toArray, List.getElem_cons_succ, List.getElem_cons_zero]; go_simp; try (with_reducible rfl))
                  simp only [List.getElem_toArray, List.getElem_cons_succ, List.getElem_cons_zero, Act.put, List.setIfInBounds_toArray, List.set_cons_zero, List.set_cons_succ]
                  refine wpAnyH_ready (rs := [13]) (by kernel_rfl) (by simp) (AllReadyH.cons rfl (fun K hK => ?_) AllReadyH.nil)
                  simp only [List.getElem_toArray, List.getElem_cons_succ, List.getElem_cons_zero]
                  go_simp
                  (go_at_call 43; refine (refCross_b _ _ _ _ _ _ _ _ _ m1 m2 m4 m5).mono ?_; rintro e w1 ⟨rfl, hb1⟩)
                  try go_wp2_with fail
                  refine hK.out _ _ (Kp.keep8 (by assumption) hHeld) (fun hHeld1 => ?_)
                  clear hK K hHeld
                  have hHeld := hHeld1; clear hHeld1
                  try simp only [List.getElem_toArray, List.getElem_cons_succ, List.getElem_cons_zero, Act.put, List.setIfInBounds_toArray, List.set_cons_zero, List.set_cons_succ]
                  refine wpAnyH_take (i := 14) (v := ?vC14) rfl (by kernel_rfl) (by kernel_rfl) (by kernel_rfl) (fun _ _ _ h => h) (Or.inl ⟨by rfl, ?yC14⟩) hHeld ?rC14
                  case yC14 => (intro W hSw; simp only [List.getElem_toArray, List.getElem_cons_succ, List.getElem_cons_zero]; go_simp; try (with_reducible rfl))
                  simp only [List.getElem_toArray, List.getElem_cons_succ, List.getElem_cons_zero, Act.put, List.setIfInBounds_toArray, List.set_cons_zero, List.set_cons_succ]
                  refine wpAnyH_done (by kernel_rfl) ?_ _
                  have B1 := Kp.end8 hHeld
                  clear hHeld K0
                  cases hx : crossB a.1 a.2 q.1 q.2 p.1 p.2 u.1 u.2
                  · go_wp2_with fail
                    go_roundw
                    case rel => exact ⟨j + 1, by omega, by go_num, anyTo_next HJ.out (by rw [HF.out, hx]), B1⟩
                    case measure => simp [intOf]; omega
                  · go_wp2_with fail
                    rw [R.out, show anyTo (edgeF l) n = true from anyTo_yes hlt (by unfold edgeF; rw [show anyTo (apartF l k) l.length = true from anyTo_yes hjl (by rw [HF.out, hx])]; simp)]
                    go_ret
                    exact ⟨by simp, B5.trans (B1.mono B5.size)⟩
              · have HT : Hid (edgeF l k = false) := Lib.hid (by unfold edgeF; rw [T.out, anyTo_le HJ.out (by have := E.out; omega)]; rfl)
                go_wp2_with fail
                go_roundw
                case rel => exact ⟨k + 1, by omega, by go_num, anyTo_next HG.out HT.out, B5.trans (hB.mono B5.size)⟩
                case measure => simp [intOf]; omega
          · rw [hh] at T
            have HF : Hid (anyTo (edgeF l) n = true) := Lib.hid (anyTo_yes hlt (by unfold edgeF; rw [T.out]; rfl))
            have B5 := Kp.end6 K5
            clear K5
            cases o1 : onB a.1 a.2 q.1 q.2 r.1 r.2
            · have o2 : onB q.1 q.2 r.1 r.2 a.1 a.2 = true := by rw [o1] at hh; exact hh
              clear hh
              go_wp2_with fail
              rw [R.out, HF.out]
              go_ret
              exact ⟨by simp, B5⟩
            · clear hh
              go_wp2_with fail
              rw [R.out, HF.out]
              go_ret
              exact ⟨by simp, B5⟩
        · have hkn : k = n := by have := E.out; omega
          rw [hkn] at HG
          clear hkn
          go_wp2_with fail
          rw [R.out, HN.out, HG.out]
          go_ret
          exact ⟨rfl, hB⟩

theorem refSimple_any (l : List Pnt) (A : Option Addr) (c : Nat) (w : World) (hA : PtsAt w w.heap.size A l) (hn : l.length ≤ 70) :
    Calls Try.prog 25 #[.slice A l.length c] w fun e w' => e = .returned (.bool (simpleB l)) ∧ Below w.heap.size w w' := by
  by_cases h3 : 3 ≤ l.length
  · by_cases h4 : l.length ≤ 64
    · rw [← simpleR_eq]
      exact refSimple_mid l A c w hA h3 h4
    · rw [show simpleB l = false by unfold simpleB; rw [decide_eq_false h4]; simp]
      exact refSimple_many A l.length c w (by omega) hn
  · rw [show simpleB l = false by unfold simpleB; rw [decide_eq_false h3]; simp]
    exact refSimple_few A l.length c w (by omega)
end Go.Proofs.Ythakngphffoooaa.Pl
/-
  Contracts of inOrder, low and high of layer 2 (rect). Memory that was there is left as it was.
-/
namespace Go.Proofs.Ythakngphffoooaa.Rc
open Go.RowKit Go.Proofs.Ythakngphffoooaa.Pt

theorem inOrder_any (x1 y1 x2 y2 : Int) (w : World) : Calls Try.prog 35 #[.agg #[.int .i64 x1, .int .i64 y1, .int .i64 x2, .int .i64 y2]] w fun e w' => e = .returned (.bool (ordB x1 y1 x2 y2)) ∧ Below w.heap.size w w' := by
  go_enter Try.func35, Try.ntmps35
  go_wp2
  all_goals (go_ret; exact ⟨by simp [ordB, *] <;> omega, (Below.refl _ _).alloc (Nat.le_refl _) _⟩)

theorem low_any (x1 y1 x2 y2 : Int) (w : World) : Calls Try.prog 33 #[.agg #[.int .i64 x1, .int .i64 y1, .int .i64 x2, .int .i64 y2]] w fun e w' => e = .returned (.agg #[.int .i64 x1, .int .i64 y1]) ∧ Below w.heap.size w w' := by
  go_enter Try.func33, Try.ntmps33
  go_wp2
  refine bodyPost_ret (v := .agg #[.int .i64 x1, .int .i64 y1]) (by simp [results, Try.results33, go_sem]) rfl ⟨rfl, ?_⟩
  exact ((Below.refl _ _).alloc (Nat.le_refl _) _).alloc (by simp) _

theorem high_any (x1 y1 x2 y2 : Int) (w : World) : Calls Try.prog 34 #[.agg #[.int .i64 x1, .int .i64 y1, .int .i64 x2, .int .i64 y2]] w fun e w' => e = .returned (.agg #[.int .i64 x2, .int .i64 y2]) ∧ Below w.heap.size w w' := by
  go_enter Try.func34, Try.ntmps34
  go_wp2
  refine bodyPost_ret (v := .agg #[.int .i64 x2, .int .i64 y2]) (by simp [results, Try.results34, go_sem]) rfl ⟨rfl, ?_⟩
  exact ((Below.refl _ _).alloc (Nat.le_refl _) _).alloc (by simp) _
end Go.Proofs.Ythakngphffoooaa.Rc
namespace Go.Proofs.Ythakngphffoooaa.Rc
open Go.RowKit Go.Proofs.Ythakngphffoooaa.Pt

theorem rmay_any (x1 y1 x2 y2 : Int) (w : World) : Calls Try.prog 18 #[.agg #[.int .i64 x1, .int .i64 y1, .int .i64 x2, .int .i64 y2]] w fun e w' => e = .returned (.bool (rmayB x1 y1 x2 y2)) ∧ Below w.heap.size w w' := by
  have L := Kp.adq0 ⟨Nat.le_refl _, Below.refl w.heap.size w⟩ w.heap.size rfl (.int .i64 x1) (.int .i64 y1) (.int .i64 x2) (.int .i64 y2) 23
  cases h1 : mayB x1 y1
  · rw [show rmayB x1 y1 x2 y2 = false by unfold rmayB; rw [h1]; rfl]
    go_enter Try.func18, Try.ntmps18
    go_wp2_with (first | (go_at_call 33; refine (low_any _ _ _ _ _).mono ?_; rintro e w1 ⟨rfl, hb1⟩; have K1 := Kp.keep4 hb1 (by assumption); clear hb1) | (go_at_call 34; refine (high_any _ _ _ _ _).mono ?_; rintro e w1 ⟨rfl, hb1⟩; have K1 := Kp.keep4 hb1 (by assumption); clear hb1) | (go_at_call 32; refine (may_any _ _ _).mono ?_; rintro e w1 ⟨rfl, hb1⟩; have K1 := Kp.keep4 hb1 (by assumption); clear hb1) | (go_at_call 35; refine (inOrder_any _ _ _ _ _).mono ?_; rintro e w1 ⟨rfl, hb1⟩; have K1 := Kp.keep4 hb1 (by assumption); clear hb1))
    go_ret
    exact ⟨rfl, Kp.end4 (by assumption)⟩
  cases h2 : mayB x2 y2
  · rw [show rmayB x1 y1 x2 y2 = false by unfold rmayB; rw [h1, h2]; rfl]
    go_enter Try.func18, Try.ntmps18
    go_wp2_with (first | (go_at_call 33; refine (low_any _ _ _ _ _).mono ?_; rintro e w1 ⟨rfl, hb1⟩; have K1 := Kp.keep4 hb1 (by assumption); clear hb1) | (go_at_call 34; refine (high_any _ _ _ _ _).mono ?_; rintro e w1 ⟨rfl, hb1⟩; have K1 := Kp.keep4 hb1 (by assumption); clear hb1) | (go_at_call 32; refine (may_any _ _ _).mono ?_; rintro e w1 ⟨rfl, hb1⟩; have K1 := Kp.keep4 hb1 (by assumption); clear hb1) | (go_at_call 35; refine (inOrder_any _ _ _ _ _).mono ?_; rintro e w1 ⟨rfl, hb1⟩; have K1 := Kp.keep4 hb1 (by assumption); clear hb1))
    go_ret
    exact ⟨rfl, Kp.end4 (by assumption)⟩
  rw [show rmayB x1 y1 x2 y2 = ordB x1 y1 x2 y2 by unfold rmayB; rw [h1, h2]; rfl]
  go_enter Try.func18, Try.ntmps18
  go_wp2_with (first | (go_at_call 33; refine (low_any _ _ _ _ _).mono ?_; rintro e w1 ⟨rfl, hb1⟩; have K1 := Kp.keep4 hb1 (by assumption); clear hb1) | (go_at_call 34; refine (high_any _ _ _ _ _).mono ?_; rintro e w1 ⟨rfl, hb1⟩; have K1 := Kp.keep4 hb1 (by assumption); clear hb1) | (go_at_call 32; refine (may_any _ _ _).mono ?_; rintro e w1 ⟨rfl, hb1⟩; have K1 := Kp.keep4 hb1 (by assumption); clear hb1) | (go_at_call 35; refine (inOrder_any _ _ _ _ _).mono ?_; rintro e w1 ⟨rfl, hb1⟩; have K1 := Kp.keep4 hb1 (by assumption); clear hb1))
  go_ret
  exact ⟨rfl, Kp.end4 (by assumption)⟩

theorem refRect_any (x1 y1 x2 y2 : Int) (w : World) : Calls Try.prog 20 #[.agg #[.int .i64 x1, .int .i64 y1, .int .i64 x2, .int .i64 y2]] w fun e w' => e = .returned (.bool (rmayB x1 y1 x2 y2)) ∧ Below w.heap.size w w' := by
  have L := Kp.adq0 ⟨Nat.le_refl _, Below.refl w.heap.size w⟩ w.heap.size rfl (.int .i64 x1) (.int .i64 y1) (.int .i64 x2) (.int .i64 y2) 23
  cases h1 : mayB x1 y1
  · rw [show rmayB x1 y1 x2 y2 = false by unfold rmayB; rw [h1]; rfl]
    go_enter Try.func20, Try.ntmps20
    go_wp2_with (go_at_call 37; refine (refMay_any _ _ _).mono ?_; rintro e w1 ⟨rfl, hb1⟩; have K1 := Kp.keep4 hb1 (by assumption); clear hb1)
    go_ret
    exact ⟨rfl, Kp.end4 (by assumption)⟩
  cases h2 : mayB x2 y2
  · rw [show rmayB x1 y1 x2 y2 = false by unfold rmayB; rw [h1, h2]; rfl]
    go_enter Try.func20, Try.ntmps20
    go_wp2_with (go_at_call 37; refine (refMay_any _ _ _).mono ?_; rintro e w1 ⟨rfl, hb1⟩; have K1 := Kp.keep4 hb1 (by assumption); clear hb1)
    go_ret
    exact ⟨rfl, Kp.end4 (by assumption)⟩
  rw [show rmayB x1 y1 x2 y2 = ordB x1 y1 x2 y2 by unfold rmayB; rw [h1, h2]; rfl]
  go_enter Try.func20, Try.ntmps20
  go_wp2_with (go_at_call 37; refine (refMay_any _ _ _).mono ?_; rintro e w1 ⟨rfl, hb1⟩; have K1 := Kp.keep4 hb1 (by assumption); clear hb1)
  all_goals (go_ret; exact ⟨by simp [ordB, *] <;> omega, Kp.end4 (by assumption)⟩)

theorem refHolds_any (ax1 ay1 ax2 ay2 bx1 by1 bx2 by2 : Int) (w : World) : Calls Try.prog 17 #[.agg #[.int .i64 ax1, .int .i64 ay1, .int .i64 ax2, .int .i64 ay2], .agg #[.int .i64 bx1, .int .i64 by1, .int .i64 bx2, .int .i64 by2]] w fun e w' => e = .returned (.bool (holdsB ax1 ay1 ax2 ay2 bx1 by1 bx2 by2)) ∧ Below w.heap.size w w' := by
  have L := Kp.adq4 (Kp.adq0 ⟨Nat.le_refl _, Below.refl w.heap.size w⟩ w.heap.size rfl (.int .i64 ax1) (.int .i64 ay1) (.int .i64 ax2) (.int .i64 ay2) 23) (w.heap.size + 1) (by simp) (.int .i64 bx1) (.int .i64 by1) (.int .i64 bx2) (.int .i64 by2) 23
  cases h1 : inB ax1 ay1 ax2 ay2 bx1 by1
  · rw [show holdsB ax1 ay1 ax2 ay2 bx1 by1 bx2 by2 = false by unfold holdsB; rw [h1]; rfl]
    go_enter Try.func17, Try.ntmps17
    go_wp2_with (go_at_call 23; refine (refIn_any _ _ _ _ _ _ _).mono ?_; rintro e w1 ⟨rfl, hb1⟩; have K1 := Kp.keep8 hb1 (by assumption); clear hb1)
    go_ret
    exact ⟨rfl, Kp.end8 (by assumption)⟩
  rw [show holdsB ax1 ay1 ax2 ay2 bx1 by1 bx2 by2 = inB ax1 ay1 ax2 ay2 bx2 by2 by unfold holdsB; rw [h1]; rfl]
  go_enter Try.func17, Try.ntmps17
  go_wp2_with (go_at_call 23; refine (refIn_any _ _ _ _ _ _ _).mono ?_; rintro e w1 ⟨rfl, hb1⟩; have K1 := Kp.keep8 hb1 (by assumption); clear hb1)
  go_ret
  exact ⟨rfl, Kp.end8 (by assumption)⟩
end Go.Proofs.Ythakngphffoooaa.Rc
