/-
  Contracts of Meet of layer 2 (rect), for any rectangles, and of the document's answers Join and Meet, for coordinates that may be. Memory that was there is left as it was.
-/
import Derived.Test.YtgddfjkjcoglcaaRcMid
import Derived.Deep.MidRow
import Derived.Outline
namespace Go.Proofs.Ytgddfjkjcoglcaa.Rc
open Go.RowKit Go.Proofs.Ytgddfjkjcoglcaa.Pt

set_option maxHeartbeats 1000000 in
theorem refJoin_any (ax1 ay1 ax2 ay2 bx1 by1 bx2 by2 : Int) (w : World) (h1 : inR ax2 = true) (h2 : inR ay2 = true) (h3 : inR bx2 = true) (h4 : inR by2 = true) : Calls Try.prog 12 #[.agg #[.int .i64 ax1, .int .i64 ay1, .int .i64 ax2, .int .i64 ay2], .agg #[.int .i64 bx1, .int .i64 by1, .int .i64 bx2, .int .i64 by2]] w fun e w' => e = .returned (.agg #[.int .i64 (mn ax1 bx1), .int .i64 (mn ay1 by1), .int .i64 (mx ax2 bx2), .int .i64 (mx ay2 by2)]) ∧ Below w.heap.size w w' := by
  go_enter Try.func12, Try.ntmps12
  go_wp2_with fail
  go_region_held3 (fun W => W.cell? ⟨w.heap.size, 0, none⟩ = some (.int .i64 ax1) ∧ W.cell? ⟨w.heap.size, 1, none⟩ = some (.int .i64 ay1) ∧ W.cell? ⟨w.heap.size, 2, none⟩ = some (.int .i64 ax2) ∧ W.cell? ⟨w.heap.size, 3, none⟩ = some (.int .i64 ay2) ∧ W.cell? ⟨w.heap.size + 1, 0, none⟩ = some (.int .i64 bx1) ∧ W.cell? ⟨w.heap.size + 1, 1, none⟩ = some (.int .i64 by1) ∧ W.cell? ⟨w.heap.size + 1, 2, none⟩ = some (.int .i64 bx2) ∧ W.cell? ⟨w.heap.size + 1, 3, none⟩ = some (.int .i64 by2))
    (go_keep)
    (first | (go_at_call 30; refine (less_any _ _ _).mono ?_; rintro e w1 ⟨rfl, rfl⟩) | (go_at_call 29; refine (more_any _ _ _ (by assumption) (by assumption)).mono ?_; rintro e w1 ⟨rfl, rfl⟩))
  go_wp2_with fail
  refine bodyPost_ret (v := .agg #[.int .i64 (mn ax1 bx1), .int .i64 (mn ay1 by1), .int .i64 (mx ax2 bx2), .int .i64 (mx ay2 by2)]) (by simp [results, Try.results12, go_sem]) rfl ⟨rfl, ?_⟩
  exact ((((Below.refl _ _).alloc (Nat.le_refl _) _).alloc (by simp) _).alloc (by simp; omega) _).drew

set_option maxHeartbeats 1000000 in
theorem meet_no (ax1 ay1 ax2 ay2 bx1 by1 bx2 by2 : Int) (w : World) (h : ordB (mx ax1 bx1) (mx ay1 by1) (mn ax2 bx2) (mn ay2 by2) = false) : Calls Try.prog 10 #[.agg #[.int .i64 ax1, .int .i64 ay1, .int .i64 ax2, .int .i64 ay2], .agg #[.int .i64 bx1, .int .i64 by1, .int .i64 bx2, .int .i64 by2]] w fun e w' => e = .returned (.tuple #[.agg #[.int .i64 0, .int .i64 0, .int .i64 0, .int .i64 0], .bool false]) ∧ Below w.heap.size w w' := by
  have hn := run_mn Try.prog
  have hx := run_mx Try.prog
  go_enter Try.func10, Try.ntmps10
  go_wp2_with fail
  refine (inOrder_any _ _ _ _ _).mono ?_
  rintro e w1 ⟨rfl, hb1⟩
  have hz := hb1.size
  simp at hz
  obtain ⟨hc, hf⟩ := bcell hb1
  go_wp2_with fail
  refine bodyPost_ret (v := .tuple #[.agg #[.int .i64 0, .int .i64 0, .int .i64 0, .int .i64 0], .bool false]) (by simp [results, Try.results10, go_sem, *]) rfl ⟨rfl, ?_⟩
  have B4 := (((((Below.refl w.heap.size w).alloc (Nat.le_refl _) (.cells #[.int .i64 ax1, .int .i64 ay1, .int .i64 ax2, .int .i64 ay2] 23)).alloc (by simp) (.cells #[.int .i64 bx1, .int .i64 by1, .int .i64 bx2, .int .i64 by2] 23)).alloc (by simp; omega) _).alloc (by simp; omega) _).trans (hb1.mono (by simp; omega))
  exact (((B4.setCell (by simp; omega) _).setCell (by simp; omega) _).setCell (by simp; omega) _).setCell (by simp; omega) _

set_option maxHeartbeats 1000000 in
theorem meet_yes (ax1 ay1 ax2 ay2 bx1 by1 bx2 by2 : Int) (w : World) (h : ordB (mx ax1 bx1) (mx ay1 by1) (mn ax2 bx2) (mn ay2 by2) = true) : Calls Try.prog 10 #[.agg #[.int .i64 ax1, .int .i64 ay1, .int .i64 ax2, .int .i64 ay2], .agg #[.int .i64 bx1, .int .i64 by1, .int .i64 bx2, .int .i64 by2]] w fun e w' => e = .returned (.tuple #[.agg #[.int .i64 (mx ax1 bx1), .int .i64 (mx ay1 by1), .int .i64 (mn ax2 bx2), .int .i64 (mn ay2 by2)], .bool true]) ∧ Below w.heap.size w w' := by
  have hn := run_mn Try.prog
  have hx := run_mx Try.prog
  go_enter Try.func10, Try.ntmps10
  go_wp2_with fail
  refine (inOrder_any _ _ _ _ _).mono ?_
  rintro e w1 ⟨rfl, hb1⟩
  have hz := hb1.size
  simp at hz
  obtain ⟨hc, hf⟩ := bcell hb1
  go_wp2_with fail
  refine bodyPost_ret (v := .tuple #[.agg #[.int .i64 (mx ax1 bx1), .int .i64 (mx ay1 by1), .int .i64 (mn ax2 bx2), .int .i64 (mn ay2 by2)], .bool true]) (by simp [results, Try.results10, go_sem, *]) rfl ⟨rfl, ?_⟩
  have B4 := (((((Below.refl w.heap.size w).alloc (Nat.le_refl _) (.cells #[.int .i64 ax1, .int .i64 ay1, .int .i64 ax2, .int .i64 ay2] 23)).alloc (by simp) (.cells #[.int .i64 bx1, .int .i64 by1, .int .i64 bx2, .int .i64 by2] 23)).alloc (by simp; omega) _).alloc (by simp; omega) _).trans (hb1.mono (by simp; omega))
  exact (((B4.setCell (by simp; omega) _).setCell (by simp; omega) _).setCell (by simp; omega) _).setCell (by simp; omega) _

set_option maxHeartbeats 2000000 in
theorem refMeet_no (ax1 ay1 ax2 ay2 bx1 by1 bx2 by2 : Int) (w : World) (h1 : inR ax1 = true) (h2 : inR ay1 = true) (h3 : inR bx1 = true) (h4 : inR by1 = true) (h : ordB (mx ax1 bx1) (mx ay1 by1) (mn ax2 bx2) (mn ay2 by2) = false) : Calls Try.prog 11 #[.agg #[.int .i64 ax1, .int .i64 ay1, .int .i64 ax2, .int .i64 ay2], .agg #[.int .i64 bx1, .int .i64 by1, .int .i64 bx2, .int .i64 by2]] w fun e w' => e = .returned (.tuple #[.agg #[.int .i64 0, .int .i64 0, .int .i64 0, .int .i64 0], .bool false]) ∧ Below w.heap.size w w' := by
  have hh : mn ax2 bx2 < mx ax1 bx1 ∨ (mx ax1 bx1 ≤ mn ax2 bx2 ∧ mn ay2 by2 < mx ay1 by1) := by
    rw [← Bool.not_eq_true, ordB_iff] at h; omega
  clear h
  rcases hh with h | ⟨_, _⟩
  · go_enter Try.func11, Try.ntmps11
    go_wp2_with fail
    go_region_held3 (fun W => W.cell? ⟨w.heap.size, 0, none⟩ = some (.int .i64 ax1) ∧ W.cell? ⟨w.heap.size, 1, none⟩ = some (.int .i64 ay1) ∧ W.cell? ⟨w.heap.size, 2, none⟩ = some (.int .i64 ax2) ∧ W.cell? ⟨w.heap.size, 3, none⟩ = some (.int .i64 ay2) ∧ W.cell? ⟨w.heap.size + 1, 0, none⟩ = some (.int .i64 bx1) ∧ W.cell? ⟨w.heap.size + 1, 1, none⟩ = some (.int .i64 by1) ∧ W.cell? ⟨w.heap.size + 1, 2, none⟩ = some (.int .i64 bx2) ∧ W.cell? ⟨w.heap.size + 1, 3, none⟩ = some (.int .i64 by2))
      (go_keep)
      (first | (go_at_call 30; refine (less_any _ _ _).mono ?_; rintro e w1 ⟨rfl, rfl⟩) | (go_at_call 29; refine (more_any _ _ _ (by assumption) (by assumption)).mono ?_; rintro e w1 ⟨rfl, rfl⟩))
    all_goals go_wp2_with fail
    all_goals refine bodyPost_ret (v := .tuple #[.agg #[.int .i64 0, .int .i64 0, .int .i64 0, .int .i64 0], .bool false]) (by simp [results, Try.results11, go_sem]) rfl ⟨rfl, ?_⟩
    all_goals exact (((((Below.refl _ _).alloc (Nat.le_refl _) _).alloc (by simp) _).alloc (by simp; omega) _).alloc (by simp; omega) _).drew
  · go_enter Try.func11, Try.ntmps11
    go_wp2_with fail
    go_region_held3 (fun W => W.cell? ⟨w.heap.size, 0, none⟩ = some (.int .i64 ax1) ∧ W.cell? ⟨w.heap.size, 1, none⟩ = some (.int .i64 ay1) ∧ W.cell? ⟨w.heap.size, 2, none⟩ = some (.int .i64 ax2) ∧ W.cell? ⟨w.heap.size, 3, none⟩ = some (.int .i64 ay2) ∧ W.cell? ⟨w.heap.size + 1, 0, none⟩ = some (.int .i64 bx1) ∧ W.cell? ⟨w.heap.size + 1, 1, none⟩ = some (.int .i64 by1) ∧ W.cell? ⟨w.heap.size + 1, 2, none⟩ = some (.int .i64 bx2) ∧ W.cell? ⟨w.heap.size + 1, 3, none⟩ = some (.int .i64 by2))
      (go_keep)
      (first | (go_at_call 30; refine (less_any _ _ _).mono ?_; rintro e w1 ⟨rfl, rfl⟩) | (go_at_call 29; refine (more_any _ _ _ (by assumption) (by assumption)).mono ?_; rintro e w1 ⟨rfl, rfl⟩))
    all_goals go_wp2_with fail
    all_goals refine bodyPost_ret (v := .tuple #[.agg #[.int .i64 0, .int .i64 0, .int .i64 0, .int .i64 0], .bool false]) (by simp [results, Try.results11, go_sem]) rfl ⟨rfl, ?_⟩
    all_goals exact (((((Below.refl _ _).alloc (Nat.le_refl _) _).alloc (by simp) _).alloc (by simp; omega) _).alloc (by simp; omega) _).drew

set_option maxHeartbeats 2000000 in
theorem refMeet_yes (ax1 ay1 ax2 ay2 bx1 by1 bx2 by2 : Int) (w : World) (h1 : inR ax1 = true) (h2 : inR ay1 = true) (h3 : inR bx1 = true) (h4 : inR by1 = true) (h : ordB (mx ax1 bx1) (mx ay1 by1) (mn ax2 bx2) (mn ay2 by2) = true) : Calls Try.prog 11 #[.agg #[.int .i64 ax1, .int .i64 ay1, .int .i64 ax2, .int .i64 ay2], .agg #[.int .i64 bx1, .int .i64 by1, .int .i64 bx2, .int .i64 by2]] w fun e w' => e = .returned (.tuple #[.agg #[.int .i64 (mx ax1 bx1), .int .i64 (mx ay1 by1), .int .i64 (mn ax2 bx2), .int .i64 (mn ay2 by2)], .bool true]) ∧ Below w.heap.size w w' := by
  rw [ordB_iff] at h
  obtain ⟨_, _⟩ := h
  go_enter Try.func11, Try.ntmps11
  go_wp2_with fail
  go_region_held3 (fun W => W.cell? ⟨w.heap.size, 0, none⟩ = some (.int .i64 ax1) ∧ W.cell? ⟨w.heap.size, 1, none⟩ = some (.int .i64 ay1) ∧ W.cell? ⟨w.heap.size, 2, none⟩ = some (.int .i64 ax2) ∧ W.cell? ⟨w.heap.size, 3, none⟩ = some (.int .i64 ay2) ∧ W.cell? ⟨w.heap.size + 1, 0, none⟩ = some (.int .i64 bx1) ∧ W.cell? ⟨w.heap.size + 1, 1, none⟩ = some (.int .i64 by1) ∧ W.cell? ⟨w.heap.size + 1, 2, none⟩ = some (.int .i64 bx2) ∧ W.cell? ⟨w.heap.size + 1, 3, none⟩ = some (.int .i64 by2))
    (go_keep)
    (first | (go_at_call 30; refine (less_any _ _ _).mono ?_; rintro e w1 ⟨rfl, rfl⟩) | (go_at_call 29; refine (more_any _ _ _ (by assumption) (by assumption)).mono ?_; rintro e w1 ⟨rfl, rfl⟩))
  all_goals go_wp2_with fail
  all_goals refine bodyPost_ret (v := .tuple #[.agg #[.int .i64 (mx ax1 bx1), .int .i64 (mx ay1 by1), .int .i64 (mn ax2 bx2), .int .i64 (mn ay2 by2)], .bool true]) (by simp [results, Try.results11, go_sem]) rfl ⟨rfl, ?_⟩
  all_goals exact (((((Below.refl _ _).alloc (Nat.le_refl _) _).alloc (by simp) _).alloc (by simp; omega) _).alloc (by simp; omega) _).drew

end Go.Proofs.Ytgddfjkjcoglcaa.Rc
