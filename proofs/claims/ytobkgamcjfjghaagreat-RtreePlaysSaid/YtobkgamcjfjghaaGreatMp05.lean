/-
  Contract of slices.insertionSortCmpFunc at places, by a comparator of which nothing is known but that it tells a number: the row holds a permutation of what it held; nothing else that was there is written.
-/
import Derived.Test.YtobkgamcjfjghaaGreatMp03
import Derived.Deep.RegionHeld3
import Derived.Sort.Row
import Derived.OwnWalk
import Derived.WalkKit
import Derived.Below
import Derived.Lib.Hide
import Derived.Deep.Draws
import Derived.Sort.Lot0
import Derived.Test.YtobkgamcjfjghaaGreatMp01
import Derived.BigGuard
import Derived.IntWalk
import Derived.CellFam
/-
  The comparators of package rsplit: each tells some number. Memory that was there is left as it was.
-/
namespace Go.Proofs.YtobkgamcjfjghaaGreat.Rs
open Go.RowKit Go.Proofs.YtobkgamcjfjghaaGreat.Pt Go.Proofs.YtobkgamcjfjghaaGreat.Rc Go.Proofs.YtobkgamcjfjghaaGreat.Pts
set_option linter.unusedVariables false
set_option linter.unusedSimpArgs false
set_option maxHeartbeats 4000000
set_option maxRecDepth 100000
theorem or2 (W : World) (a b : Int) (t : TypeId) : ∀ k, k < 2 → ∃ x : Int, (W.alloc (.cells #[.int .i64 a, .int .i64 b] t)).cell? ⟨W.heap.size, 0 + k, none⟩ = some (.int .i64 x) := by
  intro k hk
  have : k = 0 ∨ k = 1 := by omega
  rcases this with rfl | rfl <;> simp [go_sem]
theorem or2d (W : World) (a b : Int) (t : TypeId) : ∀ k, k < 2 → ∃ x : Int, (W.alloc (.cells #[.int .i64 a, .int .i64 b] t)).drew.cell? ⟨W.heap.size, 0 + k, none⟩ = some (.int .i64 x) := fun k hk => or2 W a b t k hk
theorem lowX_any (r : R4) (w : World) : Calls Tryz.prog 85 #[rv r] w fun e w' => ∃ a b : Int, e = .returned (.tuple #[.int .i64 a, .int .i64 b]) ∧ Below w.heap.size w w' := by
  obtain ⟨x1, y1, x2, y2⟩ := r
  unfold rv
  dsimp only
  have HB := Lib.hid ((Below.refl w.heap.size w).alloc (Nat.le_refl _) (.cells #[.int .i64 x1, .int .i64 y1, .int .i64 x2, .int .i64 y2] 26))
  go_enter Tryz.func85, Tryz.ntmps85
  go_wp2_with fail
  go_region
  all_goals go_wp2_with fail
  all_goals refine bodyPost_ret (v := .tuple #[.int .i64 x1, .int .i64 x2]) (by simp [results, Tryz.results85, go_sem, *]) rfl ⟨_, _, rfl, HB.out.drew⟩
theorem highX_any (r : R4) (w : World) : Calls Tryz.prog 86 #[rv r] w fun e w' => ∃ a b : Int, e = .returned (.tuple #[.int .i64 a, .int .i64 b]) ∧ Below w.heap.size w w' := by
  obtain ⟨x1, y1, x2, y2⟩ := r
  unfold rv
  dsimp only
  have HB := Lib.hid ((Below.refl w.heap.size w).alloc (Nat.le_refl _) (.cells #[.int .i64 x1, .int .i64 y1, .int .i64 x2, .int .i64 y2] 26))
  go_enter Tryz.func86, Tryz.ntmps86
  go_wp2_with fail
  go_region
  all_goals go_wp2_with fail
  all_goals refine bodyPost_ret (v := .tuple #[.int .i64 x2, .int .i64 x1]) (by simp [results, Tryz.results86, go_sem, *]) rfl ⟨_, _, rfl, HB.out.drew⟩
theorem lowY_any (r : R4) (w : World) : Calls Tryz.prog 87 #[rv r] w fun e w' => ∃ a b : Int, e = .returned (.tuple #[.int .i64 a, .int .i64 b]) ∧ Below w.heap.size w w' := by
  obtain ⟨x1, y1, x2, y2⟩ := r
  unfold rv
  dsimp only
  have HB := Lib.hid ((Below.refl w.heap.size w).alloc (Nat.le_refl _) (.cells #[.int .i64 x1, .int .i64 y1, .int .i64 x2, .int .i64 y2] 26))
  go_enter Tryz.func87, Tryz.ntmps87
  go_wp2_with fail
  go_region
  all_goals go_wp2_with fail
  all_goals refine bodyPost_ret (v := .tuple #[.int .i64 y1, .int .i64 y2]) (by simp [results, Tryz.results87, go_sem, *]) rfl ⟨_, _, rfl, HB.out.drew⟩
theorem highY_any (r : R4) (w : World) : Calls Tryz.prog 88 #[rv r] w fun e w' => ∃ a b : Int, e = .returned (.tuple #[.int .i64 a, .int .i64 b]) ∧ Below w.heap.size w w' := by
  obtain ⟨x1, y1, x2, y2⟩ := r
  unfold rv
  dsimp only
  have HB := Lib.hid ((Below.refl w.heap.size w).alloc (Nat.le_refl _) (.cells #[.int .i64 x1, .int .i64 y1, .int .i64 x2, .int .i64 y2] 26))
  go_enter Tryz.func88, Tryz.ntmps88
  go_wp2_with fail
  go_region
  all_goals go_wp2_with fail
  all_goals refine bodyPost_ret (v := .tuple #[.int .i64 y2, .int .i64 y1]) (by simp [results, Tryz.results88, go_sem, *]) rfl ⟨_, _, rfl, HB.out.drew⟩
theorem by_lowX_any (a b : R4) (w : World) : Calls Tryz.prog 109 #[.func (.func 85) #[] #[], rv a, rv b] w fun e w' => ∃ n : Int, e = .returned (.int .i64 n) ∧ Below w.heap.size w w' := by
  have CA := Lib.hid (fun W => lowX_any a W)
  have CB := Lib.hid (fun W => lowX_any b W)
  obtain ⟨ax1, ay1, ax2, ay2⟩ := a
  obtain ⟨bx1, by1, bx2, by2⟩ := b
  unfold rv at CA CB ⊢
  dsimp only at CA CB ⊢
  have HB := Lib.hid (below2 w (.cells #[.int .i64 ax1, .int .i64 ay1, .int .i64 ax2, .int .i64 ay2] 26) (.cells #[.int .i64 bx1, .int .i64 by1, .int .i64 bx2, .int .i64 by2] 26))
  have hR := Rc4.new (w.alloc (.cells #[.int .i64 ax1, .int .i64 ay1, .int .i64 ax2, .int .i64 ay2] 26)) bx1 by1 bx2 by2 26
  rw [World.size_alloc] at hR
  have RB := Lib.hid hR
  clear hR
  go_enter Tryz.func109, Tryz.ntmps109
  go_wp2_with fail
  refine Calls.mono (CA.out _) ?_
  rintro e w1 ⟨p, q, rfl, hb1⟩
  have B1 := Lib.hid (HB.out.trans (hb1.mono HB.out.size))
  obtain ⟨d0, d1, d2, d3, f0, f1, f2, f3⟩ := RB.out.later hb1
  clear hb1
  go_wp2_with fail
  refine Calls.mono (CB.out _) ?_
  rintro e w2 ⟨p2, q2, rfl, hb2⟩
  have B2 := Lib.hid (B1.out.trans (hb2.mono B1.out.size))
  clear hb2 d0 d1 d2 d3 f0 f1 f2 f3
  go_wp2_with (first
    | (go_at_call 96; refine (cmpI_any _ _ _).mono ?_; rintro e w3 ⟨n3, rfl, rfl⟩))
  refine (or_any _ _ _ _ _ (by omega) (or2 _ _ _ _)).mono ?_
  rintro e w4 ⟨n4, rfl, rfl⟩
  go_wp2_with fail
  go_ret
  exact ⟨n4, rfl, B2.out.alloc B2.out.size _⟩
theorem by_highX_any (a b : R4) (w : World) : Calls Tryz.prog 109 #[.func (.func 86) #[] #[], rv a, rv b] w fun e w' => ∃ n : Int, e = .returned (.int .i64 n) ∧ Below w.heap.size w w' := by
  have CA := Lib.hid (fun W => highX_any a W)
  have CB := Lib.hid (fun W => highX_any b W)
  obtain ⟨ax1, ay1, ax2, ay2⟩ := a
  obtain ⟨bx1, by1, bx2, by2⟩ := b
  unfold rv at CA CB ⊢
  dsimp only at CA CB ⊢
  have HB := Lib.hid (below2 w (.cells #[.int .i64 ax1, .int .i64 ay1, .int .i64 ax2, .int .i64 ay2] 26) (.cells #[.int .i64 bx1, .int .i64 by1, .int .i64 bx2, .int .i64 by2] 26))
  have hR := Rc4.new (w.alloc (.cells #[.int .i64 ax1, .int .i64 ay1, .int .i64 ax2, .int .i64 ay2] 26)) bx1 by1 bx2 by2 26
  rw [World.size_alloc] at hR
  have RB := Lib.hid hR
  clear hR
  go_enter Tryz.func109, Tryz.ntmps109
  go_wp2_with fail
  refine Calls.mono (CA.out _) ?_
  rintro e w1 ⟨p, q, rfl, hb1⟩
  have B1 := Lib.hid (HB.out.trans (hb1.mono HB.out.size))
  obtain ⟨d0, d1, d2, d3, f0, f1, f2, f3⟩ := RB.out.later hb1
  clear hb1
  go_wp2_with fail
  refine Calls.mono (CB.out _) ?_
  rintro e w2 ⟨p2, q2, rfl, hb2⟩
  have B2 := Lib.hid (B1.out.trans (hb2.mono B1.out.size))
  clear hb2 d0 d1 d2 d3 f0 f1 f2 f3
  go_wp2_with (first
    | (go_at_call 96; refine (cmpI_any _ _ _).mono ?_; rintro e w3 ⟨n3, rfl, rfl⟩))
  refine (or_any _ _ _ _ _ (by omega) (or2 _ _ _ _)).mono ?_
  rintro e w4 ⟨n4, rfl, rfl⟩
  go_wp2_with fail
  go_ret
  exact ⟨n4, rfl, B2.out.alloc B2.out.size _⟩
theorem by_lowY_any (a b : R4) (w : World) : Calls Tryz.prog 109 #[.func (.func 87) #[] #[], rv a, rv b] w fun e w' => ∃ n : Int, e = .returned (.int .i64 n) ∧ Below w.heap.size w w' := by
  have CA := Lib.hid (fun W => lowY_any a W)
  have CB := Lib.hid (fun W => lowY_any b W)
  obtain ⟨ax1, ay1, ax2, ay2⟩ := a
  obtain ⟨bx1, by1, bx2, by2⟩ := b
  unfold rv at CA CB ⊢
  dsimp only at CA CB ⊢
  have HB := Lib.hid (below2 w (.cells #[.int .i64 ax1, .int .i64 ay1, .int .i64 ax2, .int .i64 ay2] 26) (.cells #[.int .i64 bx1, .int .i64 by1, .int .i64 bx2, .int .i64 by2] 26))
  have hR := Rc4.new (w.alloc (.cells #[.int .i64 ax1, .int .i64 ay1, .int .i64 ax2, .int .i64 ay2] 26)) bx1 by1 bx2 by2 26
  rw [World.size_alloc] at hR
  have RB := Lib.hid hR
  clear hR
  go_enter Tryz.func109, Tryz.ntmps109
  go_wp2_with fail
  refine Calls.mono (CA.out _) ?_
  rintro e w1 ⟨p, q, rfl, hb1⟩
  have B1 := Lib.hid (HB.out.trans (hb1.mono HB.out.size))
  obtain ⟨d0, d1, d2, d3, f0, f1, f2, f3⟩ := RB.out.later hb1
  clear hb1
  go_wp2_with fail
  refine Calls.mono (CB.out _) ?_
  rintro e w2 ⟨p2, q2, rfl, hb2⟩
  have B2 := Lib.hid (B1.out.trans (hb2.mono B1.out.size))
  clear hb2 d0 d1 d2 d3 f0 f1 f2 f3
  go_wp2_with (first
    | (go_at_call 96; refine (cmpI_any _ _ _).mono ?_; rintro e w3 ⟨n3, rfl, rfl⟩))
  refine (or_any _ _ _ _ _ (by omega) (or2 _ _ _ _)).mono ?_
  rintro e w4 ⟨n4, rfl, rfl⟩
  go_wp2_with fail
  go_ret
  exact ⟨n4, rfl, B2.out.alloc B2.out.size _⟩
theorem by_highY_any (a b : R4) (w : World) : Calls Tryz.prog 109 #[.func (.func 88) #[] #[], rv a, rv b] w fun e w' => ∃ n : Int, e = .returned (.int .i64 n) ∧ Below w.heap.size w w' := by
  have CA := Lib.hid (fun W => highY_any a W)
  have CB := Lib.hid (fun W => highY_any b W)
  obtain ⟨ax1, ay1, ax2, ay2⟩ := a
  obtain ⟨bx1, by1, bx2, by2⟩ := b
  unfold rv at CA CB ⊢
  dsimp only at CA CB ⊢
  have HB := Lib.hid (below2 w (.cells #[.int .i64 ax1, .int .i64 ay1, .int .i64 ax2, .int .i64 ay2] 26) (.cells #[.int .i64 bx1, .int .i64 by1, .int .i64 bx2, .int .i64 by2] 26))
  have hR := Rc4.new (w.alloc (.cells #[.int .i64 ax1, .int .i64 ay1, .int .i64 ax2, .int .i64 ay2] 26)) bx1 by1 bx2 by2 26
  rw [World.size_alloc] at hR
  have RB := Lib.hid hR
  clear hR
  go_enter Tryz.func109, Tryz.ntmps109
  go_wp2_with fail
  refine Calls.mono (CA.out _) ?_
  rintro e w1 ⟨p, q, rfl, hb1⟩
  have B1 := Lib.hid (HB.out.trans (hb1.mono HB.out.size))
  obtain ⟨d0, d1, d2, d3, f0, f1, f2, f3⟩ := RB.out.later hb1
  clear hb1
  go_wp2_with fail
  refine Calls.mono (CB.out _) ?_
  rintro e w2 ⟨p2, q2, rfl, hb2⟩
  have B2 := Lib.hid (B1.out.trans (hb2.mono B1.out.size))
  clear hb2 d0 d1 d2 d3 f0 f1 f2 f3
  go_wp2_with (first
    | (go_at_call 96; refine (cmpI_any _ _ _).mono ?_; rintro e w3 ⟨n3, rfl, rfl⟩))
  refine (or_any _ _ _ _ _ (by omega) (or2 _ _ _ _)).mono ?_
  rintro e w4 ⟨n4, rfl, rfl⟩
  go_wp2_with fail
  go_ret
  exact ⟨n4, rfl, B2.out.alloc B2.out.size _⟩
theorem apart_any (a b : R4) (w : World) : Calls Tryz.prog 97 #[rv a, rv b] w fun e w' => ∃ n : Int, e = .returned (.int .i64 n) ∧ Below w.heap.size w w' := by
  obtain ⟨ax1, ay1, ax2, ay2⟩ := a
  obtain ⟨bx1, by1, bx2, by2⟩ := b
  unfold rv
  dsimp only
  obtain ⟨v, hv⟩ : ∃ v, v = (w.alloc (.cells #[.int .i64 ax1, .int .i64 ay1, .int .i64 ax2, .int .i64 ay2] 26)).alloc (.cells #[.int .i64 bx1, .int .i64 by1, .int .i64 bx2, .int .i64 by2] 26) := ⟨_, rfl⟩
  have hvs : (w.alloc (.cells #[.int .i64 ax1, .int .i64 ay1, .int .i64 ax2, .int .i64 ay2] 26)).alloc (.cells #[.int .i64 bx1, .int .i64 by1, .int .i64 bx2, .int .i64 by2] 26) = v := hv.symm
  have BV := Lib.hid (show Below w.heap.size w v by rw [hv]; exact below2 w _ _)
  have SV : w.heap.size + 1 < v.heap.size := by rw [hv]; simp
  have HS : Hid (∀ W, Below v.heap.size v W → W.cell? ⟨w.heap.size, 0, none⟩ = some (.int .i64 ax1) ∧ W.cell? ⟨w.heap.size, 1, none⟩ = some (.int .i64 ay1) ∧ W.cell? ⟨w.heap.size, 2, none⟩ = some (.int .i64 ax2) ∧ W.cell? ⟨w.heap.size, 3, none⟩ = some (.int .i64 ay2) ∧ W.cell? ⟨w.heap.size + 1, 0, none⟩ = some (.int .i64 bx1) ∧ W.cell? ⟨w.heap.size + 1, 1, none⟩ = some (.int .i64 by1) ∧ W.cell? ⟨w.heap.size + 1, 2, none⟩ = some (.int .i64 bx2) ∧ W.cell? ⟨w.heap.size + 1, 3, none⟩ = some (.int .i64 by2) ∧ Below v.heap.size v W) := Lib.hid fun W hB => by
    have q1 : ∀ x, W.cell? ⟨w.heap.size, x, none⟩ = v.cell? ⟨w.heap.size, x, none⟩ := fun x => World.cell?_of_block (w := v) (w' := W) (a := ⟨w.heap.size, x, none⟩) (hB.block w.heap.size (by omega))
    have q2 : ∀ x, W.cell? ⟨w.heap.size + 1, x, none⟩ = v.cell? ⟨w.heap.size + 1, x, none⟩ := fun x => World.cell?_of_block (w := v) (w' := W) (a := ⟨w.heap.size + 1, x, none⟩) (hB.block (w.heap.size + 1) SV)
    simp only [q1, q2]
    refine ⟨?_, ?_, ?_, ?_, ?_, ?_, ?_, ?_, hB⟩ <;> rw [hv] <;> simp
  have HV := Lib.hid hvs
  clear hv hvs SV
  go_enter Tryz.func97, Tryz.ntmps97
  go_wp2_with fail
  rw [HV.out]
  refine wp_region_held_drew (S := (fun W => W.cell? ⟨w.heap.size, 0, none⟩ = some (.int .i64 ax1) ∧ W.cell? ⟨w.heap.size, 1, none⟩ = some (.int .i64 ay1) ∧ W.cell? ⟨w.heap.size, 2, none⟩ = some (.int .i64 ax2) ∧ W.cell? ⟨w.heap.size, 3, none⟩ = some (.int .i64 ay2) ∧ W.cell? ⟨w.heap.size + 1, 0, none⟩ = some (.int .i64 bx1) ∧ W.cell? ⟨w.heap.size + 1, 1, none⟩ = some (.int .i64 by1) ∧ W.cell? ⟨w.heap.size + 1, 2, none⟩ = some (.int .i64 bx2) ∧ W.cell? ⟨w.heap.size + 1, 3, none⟩ = some (.int .i64 by2) ∧ Below v.heap.size v W)) (by kernel_rfl) (HS.out _ (Below.drew (Below.refl _ _))) (fun hHeld => ?_)
  refine wpAnyH_take (i := 0) (v := ?v0) rfl (by kernel_rfl) (by kernel_rfl) (by kernel_rfl) (fun _ _ _ h => h) (Or.inl ⟨by rfl, ?y0⟩) hHeld ?r0
  case y0 => (intro W hSw; simp only [List.getElem_toArray, List.getElem_cons_zero]; go_simp; try (with_reducible rfl))
  simp only [List.getElem_toArray, List.getElem_cons_zero, Act.put, List.setIfInBounds_toArray, List.set_cons_zero, List.set_cons_succ]
  refine wpAnyH_take (i := 1) (v := ?v1) rfl (by kernel_rfl) (by kernel_rfl) (by kernel_rfl) (fun _ _ _ h => h) (Or.inl ⟨by rfl, ?y1⟩) hHeld ?r1
  case y1 => (intro W hSw; simp only [List.getElem_toArray, List.getElem_cons_succ, List.getElem_cons_zero]; go_simp; try (with_reducible rfl))
  simp only [List.getElem_toArray, List.getElem_cons_succ, List.getElem_cons_zero, Act.put, List.setIfInBounds_toArray, List.set_cons_zero, List.set_cons_succ]
  refine wpAnyH_take (i := 2) (v := ?v2) rfl (by kernel_rfl) (by kernel_rfl) (by kernel_rfl) (fun _ _ _ h => h) (Or.inl ⟨by rfl, ?y2⟩) hHeld ?r2
  case y2 => (intro W hSw; simp only [List.getElem_toArray, List.getElem_cons_succ, List.getElem_cons_zero]; go_simp; try (with_reducible rfl))
  simp only [List.getElem_toArray, List.getElem_cons_succ, List.getElem_cons_zero, Act.put, List.setIfInBounds_toArray, List.set_cons_zero, List.set_cons_succ]
  refine wpAnyH_take (i := 3) (v := ?v3) rfl (by kernel_rfl) (by kernel_rfl) (by kernel_rfl) (fun _ _ _ h => h) (Or.inl ⟨by rfl, ?y3⟩) hHeld ?r3
  case y3 => (intro W hSw; simp only [List.getElem_toArray, List.getElem_cons_succ, List.getElem_cons_zero]; go_simp; try (with_reducible rfl))
  simp only [List.getElem_toArray, List.getElem_cons_succ, List.getElem_cons_zero, Act.put, List.setIfInBounds_toArray, List.set_cons_zero, List.set_cons_succ]
  refine wpAnyH_take (i := 4) (v := ?v4) rfl (by kernel_rfl) (by kernel_rfl) (by kernel_rfl) (fun _ _ _ h => h) (Or.inl ⟨by rfl, ?y4⟩) hHeld ?r4
  case y4 => (intro W hSw; simp only [List.getElem_toArray, List.getElem_cons_succ, List.getElem_cons_zero]; go_simp; try (with_reducible rfl))
  simp only [List.getElem_toArray, List.getElem_cons_succ, List.getElem_cons_zero, Act.put, List.setIfInBounds_toArray, List.set_cons_zero, List.set_cons_succ]
  refine wpAnyH_take (i := 5) (v := ?v5) rfl (by kernel_rfl) (by kernel_rfl) (by kernel_rfl) (fun _ _ _ h => h) (Or.inl ⟨by rfl, ?y5⟩) hHeld ?r5
  case y5 => (intro W hSw; simp only [List.getElem_toArray, List.getElem_cons_succ, List.getElem_cons_zero]; go_simp; try (with_reducible rfl))
  simp only [List.getElem_toArray, List.getElem_cons_succ, List.getElem_cons_zero, Act.put, List.setIfInBounds_toArray, List.set_cons_zero, List.set_cons_succ]
  refine wpAnyH_take (i := 6) (v := ?v6) rfl (by kernel_rfl) (by kernel_rfl) (by kernel_rfl) (fun _ _ _ h => h) (Or.inl ⟨by rfl, ?y6⟩) hHeld ?r6
  case y6 => (intro W hSw; simp only [List.getElem_toArray, List.getElem_cons_succ, List.getElem_cons_zero]; go_simp; try (with_reducible rfl))
  simp only [List.getElem_toArray, List.getElem_cons_succ, List.getElem_cons_zero, Act.put, List.setIfInBounds_toArray, List.set_cons_zero, List.set_cons_succ]
  refine wpAnyH_take (i := 7) (v := ?v7) rfl (by kernel_rfl) (by kernel_rfl) (by kernel_rfl) (fun _ _ _ h => h) (Or.inl ⟨by rfl, ?y7⟩) hHeld ?r7
  case y7 => (intro W hSw; simp only [List.getElem_toArray, List.getElem_cons_succ, List.getElem_cons_zero]; go_simp; try (with_reducible rfl))
  simp only [List.getElem_toArray, List.getElem_cons_succ, List.getElem_cons_zero, Act.put, List.setIfInBounds_toArray, List.set_cons_zero, List.set_cons_succ]
  refine wpAnyH_take (i := 8) (v := ?v8) rfl (by kernel_rfl) (by kernel_rfl) (by kernel_rfl) (fun _ _ _ h => h) (Or.inl ⟨by rfl, ?y8⟩) hHeld ?r8
  case y8 => (intro W hSw; simp only [List.getElem_toArray, List.getElem_cons_succ, List.getElem_cons_zero]; go_simp; try (with_reducible rfl))
  simp only [List.getElem_toArray, List.getElem_cons_succ, List.getElem_cons_zero, Act.put, List.setIfInBounds_toArray, List.set_cons_zero, List.set_cons_succ]
  refine wpAnyH_take (i := 9) (v := ?v9) rfl (by kernel_rfl) (by kernel_rfl) (by kernel_rfl) (fun _ _ _ h => h) (Or.inl ⟨by rfl, ?y9⟩) hHeld ?r9
  case y9 => (intro W hSw; simp only [List.getElem_toArray, List.getElem_cons_succ, List.getElem_cons_zero]; go_simp; try (with_reducible rfl))
  simp only [List.getElem_toArray, List.getElem_cons_succ, List.getElem_cons_zero, Act.put, List.setIfInBounds_toArray, List.set_cons_zero, List.set_cons_succ]
  refine wpAnyH_take (i := 11) (v := ?v11) rfl (by kernel_rfl) (by kernel_rfl) (by kernel_rfl) (fun _ _ _ h => h) (Or.inl ⟨by rfl, ?y11⟩) hHeld ?r11
  case y11 => (intro W hSw; simp only [List.getElem_toArray, List.getElem_cons_succ, List.getElem_cons_zero]; go_simp; try (with_reducible rfl))
  simp only [List.getElem_toArray, List.getElem_cons_succ, List.getElem_cons_zero, Act.put, List.setIfInBounds_toArray, List.set_cons_zero, List.set_cons_succ]
  refine wpAnyH_take (i := 12) (v := ?v12) rfl (by kernel_rfl) (by kernel_rfl) (by kernel_rfl) (fun _ _ _ h => h) (Or.inl ⟨by rfl, ?y12⟩) hHeld ?r12
  case y12 => (intro W hSw; simp only [List.getElem_toArray, List.getElem_cons_succ, List.getElem_cons_zero]; go_simp; try (with_reducible rfl))
  simp only [List.getElem_toArray, List.getElem_cons_succ, List.getElem_cons_zero, Act.put, List.setIfInBounds_toArray, List.set_cons_zero, List.set_cons_succ]
  refine wpAnyH_take (i := 13) (v := ?v13) rfl (by kernel_rfl) (by kernel_rfl) (by kernel_rfl) (fun _ _ _ h => h) (Or.inl ⟨by rfl, ?y13⟩) hHeld ?r13
  case y13 => (intro W hSw; simp only [List.getElem_toArray, List.getElem_cons_succ, List.getElem_cons_zero]; go_simp; try (with_reducible rfl))
  simp only [List.getElem_toArray, List.getElem_cons_succ, List.getElem_cons_zero, Act.put, List.setIfInBounds_toArray, List.set_cons_zero, List.set_cons_succ]
  refine wpAnyH_take (i := 14) (v := ?v14) rfl (by kernel_rfl) (by kernel_rfl) (by kernel_rfl) (fun _ _ _ h => h) (Or.inl ⟨by rfl, ?y14⟩) hHeld ?r14
  case y14 => (intro W hSw; simp only [List.getElem_toArray, List.getElem_cons_succ, List.getElem_cons_zero]; go_simp; try (with_reducible rfl))
  simp only [List.getElem_toArray, List.getElem_cons_succ, List.getElem_cons_zero, Act.put, List.setIfInBounds_toArray, List.set_cons_zero, List.set_cons_succ]
  refine wpAnyH_take (i := 15) (v := ?v15) rfl (by kernel_rfl) (by kernel_rfl) (by kernel_rfl) (fun _ _ _ h => h) (Or.inl ⟨by rfl, ?y15⟩) hHeld ?r15
  case y15 => (intro W hSw; simp only [List.getElem_toArray, List.getElem_cons_succ, List.getElem_cons_zero]; go_simp; try (with_reducible rfl))
  simp only [List.getElem_toArray, List.getElem_cons_succ, List.getElem_cons_zero, Act.put, List.setIfInBounds_toArray, List.set_cons_zero, List.set_cons_succ]
  refine wpAnyH_take (i := 16) (v := ?v16) rfl (by kernel_rfl) (by kernel_rfl) (by kernel_rfl) (fun _ _ _ h => h) (Or.inl ⟨by rfl, ?y16⟩) hHeld ?r16
  case y16 => (intro W hSw; simp only [List.getElem_toArray, List.getElem_cons_succ, List.getElem_cons_zero]; go_simp; try (with_reducible rfl))
  simp only [List.getElem_toArray, List.getElem_cons_succ, List.getElem_cons_zero, Act.put, List.setIfInBounds_toArray, List.set_cons_zero, List.set_cons_succ]
  refine wpAnyH_take (i := 17) (v := ?v17) rfl (by kernel_rfl) (by kernel_rfl) (by kernel_rfl) (fun _ _ _ h => h) (Or.inl ⟨by rfl, ?y17⟩) hHeld ?r17
  case y17 => (intro W hSw; simp only [List.getElem_toArray, List.getElem_cons_succ, List.getElem_cons_zero]; go_simp; try (with_reducible rfl))
  simp only [List.getElem_toArray, List.getElem_cons_succ, List.getElem_cons_zero, Act.put, List.setIfInBounds_toArray, List.set_cons_zero, List.set_cons_succ]
  refine wpAnyH_take (i := 18) (v := ?v18) rfl (by kernel_rfl) (by kernel_rfl) (by kernel_rfl) (fun _ _ _ h => h) (Or.inl ⟨by rfl, ?y18⟩) hHeld ?r18
  case y18 => (intro W hSw; simp only [List.getElem_toArray, List.getElem_cons_succ, List.getElem_cons_zero]; go_simp; try (with_reducible rfl))
  simp only [List.getElem_toArray, List.getElem_cons_succ, List.getElem_cons_zero, Act.put, List.setIfInBounds_toArray, List.set_cons_zero, List.set_cons_succ]
  refine wpAnyH_take (i := 19) (v := ?v19) rfl (by kernel_rfl) (by kernel_rfl) (by kernel_rfl) (fun _ _ _ h => h) (Or.inl ⟨by rfl, ?y19⟩) hHeld ?r19
  case y19 => (intro W hSw; simp only [List.getElem_toArray, List.getElem_cons_succ, List.getElem_cons_zero]; go_simp; try (with_reducible rfl))
  simp only [List.getElem_toArray, List.getElem_cons_succ, List.getElem_cons_zero, Act.put, List.setIfInBounds_toArray, List.set_cons_zero, List.set_cons_succ]
  refine wpAnyH_take (i := 20) (v := ?v20) rfl (by kernel_rfl) (by kernel_rfl) (by kernel_rfl) (fun _ _ _ h => h) (Or.inl ⟨by rfl, ?y20⟩) hHeld ?r20
  case y20 => (intro W hSw; simp only [List.getElem_toArray, List.getElem_cons_succ, List.getElem_cons_zero]; go_simp; try (with_reducible rfl))
  simp only [List.getElem_toArray, List.getElem_cons_succ, List.getElem_cons_zero, Act.put, List.setIfInBounds_toArray, List.set_cons_zero, List.set_cons_succ]
  refine wpAnyH_ready (rs := [10]) (by kernel_rfl) (by simp) (AllReadyH.cons rfl (fun K hK => ?_) AllReadyH.nil)
  simp only [List.getElem_toArray, List.getElem_cons_succ, List.getElem_cons_zero]
  go_simp
  go_at_call 118; refine (between_any _ _ _).mono ?_; rintro e w1 ⟨n10, rfl, rfl⟩
  try go_wp2_with fail
  refine hK.out _ _ (by exact hHeld) (fun hHeld1 => ?_)
  clear hK K hHeld
  have hHeld := hHeld1; clear hHeld1
  try simp only [List.getElem_toArray, List.getElem_cons_succ, List.getElem_cons_zero, Act.put, List.setIfInBounds_toArray, List.set_cons_zero, List.set_cons_succ]
  refine wpAnyH_ready (rs := [21]) (by kernel_rfl) (by simp) (AllReadyH.cons rfl (fun K hK => ?_) AllReadyH.nil)
  simp only [List.getElem_toArray, List.getElem_cons_succ, List.getElem_cons_zero]
  go_simp
  go_at_call 118; refine (between_any _ _ _).mono ?_; rintro e w1 ⟨n21, rfl, rfl⟩
  try go_wp2_with fail
  refine hK.out _ _ (by exact hHeld) (fun hHeld1 => ?_)
  clear hK K hHeld
  have hHeld := hHeld1; clear hHeld1
  try simp only [List.getElem_toArray, List.getElem_cons_succ, List.getElem_cons_zero, Act.put, List.setIfInBounds_toArray, List.set_cons_zero, List.set_cons_succ]
  refine wpAnyH_take (i := 22) (v := ?v22) rfl (by kernel_rfl) (by kernel_rfl) (by kernel_rfl) (fun _ _ _ h => h) (Or.inl ⟨by rfl, ?y22⟩) hHeld ?r22
  case y22 => (intro W hSw; simp only [List.getElem_toArray, List.getElem_cons_succ, List.getElem_cons_zero]; go_simp; try (with_reducible rfl))
  simp only [List.getElem_toArray, List.getElem_cons_succ, List.getElem_cons_zero, Act.put, List.setIfInBounds_toArray, List.set_cons_zero, List.set_cons_succ]
  refine wpAnyH_take (i := 23) (v := ?v23) rfl (by kernel_rfl) (by kernel_rfl) (by kernel_rfl) (fun _ _ _ h => h) (Or.inl ⟨by rfl, ?y23⟩) hHeld ?r23
  case y23 => (intro W hSw; simp only [List.getElem_toArray, List.getElem_cons_succ, List.getElem_cons_zero]; go_simp; try (with_reducible rfl))
  simp only [List.getElem_toArray, List.getElem_cons_succ, List.getElem_cons_zero, Act.put, List.setIfInBounds_toArray, List.set_cons_zero, List.set_cons_succ]
  refine wpAnyH_done (by kernel_rfl) ?_ _
  have HZ := Lib.hid hHeld.2.2.2.2.2.2.2.2
  clear hHeld
  go_wp2_with fail
  go_ret
  exact ⟨_, rfl, BV.out.trans (HZ.out.mono BV.out.size)⟩
theorem far_any (a b : R4) (g : Nat) (w : World) (h : Rk w g) : Calls Tryz.prog 95 #[rv a, rv b, .pointer (some ⟨g, 0, none⟩)] w fun e w' => ∃ n : Int, e = .returned (.int .i64 n) ∧ Below w.heap.size w w' := by
  obtain ⟨⟨x1, y1, x2, y2⟩, _, hR⟩ := h
  dsimp only at hR
  obtain ⟨ax1, ay1, ax2, ay2⟩ := a
  obtain ⟨bx1, by1, bx2, by2⟩ := b
  unfold rv
  dsimp only
  obtain ⟨v, hv⟩ : ∃ v, v = (w.alloc (.cells #[.int .i64 ax1, .int .i64 ay1, .int .i64 ax2, .int .i64 ay2] 26)).alloc (.cells #[.int .i64 bx1, .int .i64 by1, .int .i64 bx2, .int .i64 by2] 26) := ⟨_, rfl⟩
  have hvs : (w.alloc (.cells #[.int .i64 ax1, .int .i64 ay1, .int .i64 ax2, .int .i64 ay2] 26)).alloc (.cells #[.int .i64 bx1, .int .i64 by1, .int .i64 bx2, .int .i64 by2] 26) = v := hv.symm
  have BV := Lib.hid (show Below w.heap.size w v by rw [hv]; exact below2 w _ _)
  have SV : w.heap.size + 1 < v.heap.size := by rw [hv]; simp
  have HS : Hid (∀ W, Below v.heap.size v W → W.cell? ⟨w.heap.size, 0, none⟩ = some (.int .i64 ax1) ∧ W.cell? ⟨w.heap.size, 1, none⟩ = some (.int .i64 ay1) ∧ W.cell? ⟨w.heap.size, 2, none⟩ = some (.int .i64 ax2) ∧ W.cell? ⟨w.heap.size, 3, none⟩ = some (.int .i64 ay2) ∧ W.cell? ⟨w.heap.size + 1, 0, none⟩ = some (.int .i64 bx1) ∧ W.cell? ⟨w.heap.size + 1, 1, none⟩ = some (.int .i64 by1) ∧ W.cell? ⟨w.heap.size + 1, 2, none⟩ = some (.int .i64 bx2) ∧ W.cell? ⟨w.heap.size + 1, 3, none⟩ = some (.int .i64 by2) ∧ W.cell? ⟨g, 0, none⟩ = some (.int .i64 x1) ∧ W.cell? ⟨g, 1, none⟩ = some (.int .i64 y1) ∧ W.cell? ⟨g, 2, none⟩ = some (.int .i64 x2) ∧ W.cell? ⟨g, 3, none⟩ = some (.int .i64 y2) ∧ Below v.heap.size v W) := Lib.hid fun W hB => by
    obtain ⟨g0, g1, g2, g3, _⟩ := (hR.later BV.out).later hB
    have q1 : ∀ x, W.cell? ⟨w.heap.size, x, none⟩ = v.cell? ⟨w.heap.size, x, none⟩ := fun x => World.cell?_of_block (w := v) (w' := W) (a := ⟨w.heap.size, x, none⟩) (hB.block w.heap.size (by omega))
    have q2 : ∀ x, W.cell? ⟨w.heap.size + 1, x, none⟩ = v.cell? ⟨w.heap.size + 1, x, none⟩ := fun x => World.cell?_of_block (w := v) (w' := W) (a := ⟨w.heap.size + 1, x, none⟩) (hB.block (w.heap.size + 1) SV)
    simp only [q1, q2]
    refine ⟨?_, ?_, ?_, ?_, ?_, ?_, ?_, ?_, g0, g1, g2, g3, hB⟩ <;> rw [hv] <;> simp
  have HV := Lib.hid hvs
  clear hv hvs SV hR
  go_enter Tryz.func95, Tryz.ntmps95
  go_wp2_with fail
  rw [HV.out]
  refine wp_region_held_drew (S := (fun W => W.cell? ⟨w.heap.size, 0, none⟩ = some (.int .i64 ax1) ∧ W.cell? ⟨w.heap.size, 1, none⟩ = some (.int .i64 ay1) ∧ W.cell? ⟨w.heap.size, 2, none⟩ = some (.int .i64 ax2) ∧ W.cell? ⟨w.heap.size, 3, none⟩ = some (.int .i64 ay2) ∧ W.cell? ⟨w.heap.size + 1, 0, none⟩ = some (.int .i64 bx1) ∧ W.cell? ⟨w.heap.size + 1, 1, none⟩ = some (.int .i64 by1) ∧ W.cell? ⟨w.heap.size + 1, 2, none⟩ = some (.int .i64 bx2) ∧ W.cell? ⟨w.heap.size + 1, 3, none⟩ = some (.int .i64 by2) ∧ W.cell? ⟨g, 0, none⟩ = some (.int .i64 x1) ∧ W.cell? ⟨g, 1, none⟩ = some (.int .i64 y1) ∧ W.cell? ⟨g, 2, none⟩ = some (.int .i64 x2) ∧ W.cell? ⟨g, 3, none⟩ = some (.int .i64 y2) ∧ Below v.heap.size v W)) (by kernel_rfl) (HS.out _ (Below.drew (Below.refl _ _))) (fun hHeld => ?_)
  refine wpAnyH_take (i := 0) (v := ?v0) rfl (by kernel_rfl) (by kernel_rfl) (by kernel_rfl) (fun _ _ _ h => h) (Or.inl ⟨by rfl, ?y0⟩) hHeld ?r0
  case y0 => (intro W hSw; simp only [List.getElem_toArray, List.getElem_cons_zero]; go_simp; try (with_reducible rfl))
  simp only [List.getElem_toArray, List.getElem_cons_zero, Act.put, List.setIfInBounds_toArray, List.set_cons_zero, List.set_cons_succ]
  refine wpAnyH_take (i := 1) (v := ?v1) rfl (by kernel_rfl) (by kernel_rfl) (by kernel_rfl) (fun _ _ _ h => h) (Or.inl ⟨by rfl, ?y1⟩) hHeld ?r1
  case y1 => (intro W hSw; simp only [List.getElem_toArray, List.getElem_cons_succ, List.getElem_cons_zero]; go_simp; try (with_reducible rfl))
  simp only [List.getElem_toArray, List.getElem_cons_succ, List.getElem_cons_zero, Act.put, List.setIfInBounds_toArray, List.set_cons_zero, List.set_cons_succ]
  refine wpAnyH_take (i := 3) (v := ?v3) rfl (by kernel_rfl) (by kernel_rfl) (by kernel_rfl) (fun _ _ _ h => h) (Or.inl ⟨by rfl, ?y3⟩) hHeld ?r3
  case y3 => (intro W hSw; simp only [List.getElem_toArray, List.getElem_cons_succ, List.getElem_cons_zero]; go_simp; try (with_reducible rfl))
  simp only [List.getElem_toArray, List.getElem_cons_succ, List.getElem_cons_zero, Act.put, List.setIfInBounds_toArray, List.set_cons_zero, List.set_cons_succ]
  refine wpAnyH_take (i := 4) (v := ?v4) rfl (by kernel_rfl) (by kernel_rfl) (by kernel_rfl) (fun _ _ _ h => h) (Or.inl ⟨by rfl, ?y4⟩) hHeld ?r4
  case y4 => (intro W hSw; simp only [List.getElem_toArray, List.getElem_cons_succ, List.getElem_cons_zero]; go_simp; try (with_reducible rfl))
  simp only [List.getElem_toArray, List.getElem_cons_succ, List.getElem_cons_zero, Act.put, List.setIfInBounds_toArray, List.set_cons_zero, List.set_cons_succ]
  refine wpAnyH_ready (rs := [2]) (by kernel_rfl) (by simp) (AllReadyH.cons rfl (fun K hK => ?_) AllReadyH.nil)
  simp only [List.getElem_toArray, List.getElem_cons_succ, List.getElem_cons_zero]
  go_simp
  go_at_call 97; refine (apart_any ⟨ax1, ay1, ax2, ay2⟩ ⟨x1, y1, x2, y2⟩ _).mono ?_; rintro e w2 ⟨n2, rfl, hb1⟩
  try go_wp2_with fail
  refine hK.out _ _ (by first | exact HS.out _ (hHeld.2.2.2.2.2.2.2.2.2.2.2.2.trans (hb1.mono hHeld.2.2.2.2.2.2.2.2.2.2.2.2.size)) | exact hHeld) (fun hHeld1 => ?_)
  clear hK K hHeld
  have hHeld := hHeld1; clear hHeld1
  try simp only [List.getElem_toArray, List.getElem_cons_succ, List.getElem_cons_zero, Act.put, List.setIfInBounds_toArray, List.set_cons_zero, List.set_cons_succ]
  clear hb1
  refine wpAnyH_ready (rs := [5]) (by kernel_rfl) (by simp) (AllReadyH.cons rfl (fun K hK => ?_) AllReadyH.nil)
  simp only [List.getElem_toArray, List.getElem_cons_succ, List.getElem_cons_zero]
  go_simp
  go_at_call 97; refine (apart_any ⟨bx1, by1, bx2, by2⟩ ⟨x1, y1, x2, y2⟩ _).mono ?_; rintro e w5 ⟨n5, rfl, hb1⟩
  try go_wp2_with fail
  refine hK.out _ _ (by exact HS.out _ (hHeld.2.2.2.2.2.2.2.2.2.2.2.2.trans (hb1.mono hHeld.2.2.2.2.2.2.2.2.2.2.2.2.size))) (fun hHeld1 => ?_)
  clear hK K hHeld
  have hHeld := hHeld1; clear hHeld1
  try simp only [List.getElem_toArray, List.getElem_cons_succ, List.getElem_cons_zero, Act.put, List.setIfInBounds_toArray, List.set_cons_zero, List.set_cons_succ]
  clear hb1
  refine wpAnyH_ready (rs := [6]) (by kernel_rfl) (by simp) (AllReadyH.cons rfl (fun K hK => ?_) AllReadyH.nil)
  simp only [List.getElem_toArray, List.getElem_cons_succ, List.getElem_cons_zero]
  go_simp
  go_at_call 96; refine (cmpI_any _ _ _).mono ?_; rintro e w6 ⟨n6, rfl, rfl⟩
  try go_wp2_with fail
  refine hK.out _ _ (by exact hHeld) (fun hHeld1 => ?_)
  clear hK K hHeld
  have hHeld := hHeld1; clear hHeld1
  try simp only [List.getElem_toArray, List.getElem_cons_succ, List.getElem_cons_zero, Act.put, List.setIfInBounds_toArray, List.set_cons_zero, List.set_cons_succ]
  refine wpAnyH_take (i := 7) (v := ?v7) rfl (by kernel_rfl) (by kernel_rfl) (by kernel_rfl) (fun _ _ _ h => h) (Or.inl ⟨by rfl, ?y7⟩) hHeld ?r7
  case y7 => (intro W hSw; simp only [List.getElem_toArray, List.getElem_cons_succ, List.getElem_cons_zero]; go_simp; try (with_reducible rfl))
  simp only [List.getElem_toArray, List.getElem_cons_succ, List.getElem_cons_zero, Act.put, List.setIfInBounds_toArray, List.set_cons_zero, List.set_cons_succ]
  refine wpAnyH_done (by kernel_rfl) ?_ _
  have HZ := Lib.hid hHeld.2.2.2.2.2.2.2.2.2.2.2.2
  clear hHeld
  go_wp2_with fail
  go_ret
  exact ⟨n6, rfl, BV.out.trans (HZ.out.mono BV.out.size)⟩
end Go.Proofs.YtobkgamcjfjghaaGreat.Rs
/-
  The sort of uint64: a row of numbers in one block, in a world that has come of another one by growth and by what was written into that block alone. No program here.
-/
namespace Go.Proofs.YtobkgamcjfjghaaGreat.So
open Go.RowKit
set_option linter.unusedVariables false

/-- The row's cells hold d, and may be written. -/
abbrev HU (W : World) (blk off : Nat) (d : Array Int) : Prop := Sort.Holds (Value.int .u64) W blk off d
/-- W has come of w: nothing but the row's block has been written, and the row holds d. -/
def SU (w : World) (blk off : Nat) (d : Array Int) (W : World) : Prop := HU W blk off d ∧ w.grownBy W (some blk)

theorem grown_trans {a b c : World} {r : Option Nat} (h : a.grownBy b r) (k : b.grownBy c r) : a.grownBy c r :=
  ⟨k.os.trans h.os, k.tape.trans h.tape, k.output.trans h.output, Nat.le_trans h.size k.size,
    fun i hi hr => (k.block i (Nat.lt_of_lt_of_le hi h.size) hr).trans (h.block i hi hr)⟩
theorem grown_drewN {a b : World} {r : Option Nat} (h : a.grownBy b r) (n : Nat) : a.grownBy (b.drewN n) r := ⟨h.os, h.tape, h.output, h.size, h.block⟩
theorem grown_set {a b : World} {blk o : Nat} (h : a.grownBy b (some blk)) (v : Value) : a.grownBy (b.setCell ⟨blk, o, none⟩ v) (some blk) :=
  ⟨h.os, h.tape, h.output, by simpa using h.size, fun k hk hne => by
    rw [Below.heap_setCell b ⟨blk, o, none⟩ v k (fun e => hne (by rw [e]))]; exact h.block k hk hne⟩
theorem grown_any {a b : World} {r : Option Nat} (h : Below a.heap.size a b) : a.grownBy b r := ⟨h.os, h.tape, h.output, h.size, fun k hk _ => h.block k hk⟩

def nOf : Value → Nat | .int _ q => q.toNat | _ => 0
end Go.Proofs.YtobkgamcjfjghaaGreat.So
namespace Go.Proofs.YtobkgamcjfjghaaGreat.Rs
open Go.RowKit Go.Proofs.YtobkgamcjfjghaaGreat.So
set_option linter.unusedVariables false
set_option linter.unusedSimpArgs false
set_option maxHeartbeats 4000000
set_option maxRecDepth 100000
/-- The row's cells hold d, and may be written. -/
abbrev HI (W : World) (blk off : Nat) (d : Array Int) : Prop := Sort.Holds (Value.int .i64) W blk off d
/-- W has come of w: of what was there nothing but the row's block has been written, and the row holds d. -/
def SI (w : World) (blk off : Nat) (d : Array Int) (W : World) : Prop := HI W blk off d ∧ w.grownBy W (some blk)
theorem SI.start {w : World} {blk off : Nat} {d : Array Int} (h : HI w blk off d) : SI w blk off d w := ⟨h, World.grownBy.refl _ _⟩
theorem SI.drew {w W : World} {blk off : Nat} {d : Array Int} (h : SI w blk off d W) : SI w blk off d W.drew := ⟨h.1, grown_drewN h.2 1⟩
theorem SI.c {w W : World} {blk off : Nat} {d : Array Int} (h : SI w blk off d W) (t : Nat) (ht : t < d.size) : W.cell? ⟨blk, off + t, none⟩ = some (.int .i64 d[t]!) := (h.1 t ht).1
theorem SI.f {w W : World} {blk off : Nat} {d : Array Int} (h : SI w blk off d W) (t : Nat) (ht : t < d.size) : W.frozen? ⟨blk, off + t, none⟩ = false := (h.1 t ht).2
theorem SI.below {w W V : World} {blk off : Nat} {d : Array Int} (h : SI w blk off d W) (hb : Below W.heap.size W V) : SI w blk off d V := by
  refine ⟨fun t ht => ?_, grown_trans h.2 (grown_any hb)⟩
  have e : V.heap[blk]? = W.heap[blk]? := hb.block blk (World.block_lt_of_cell? W ⟨blk, off + t, none⟩ (h.1 t ht).1)
  exact ⟨(World.cell?_of_block (w := W) (a := ⟨blk, off + t, none⟩) e).trans (h.c t ht), (World.frozen?_of_block (w := W) (a := ⟨blk, off + t, none⟩) e).trans (h.f t ht)⟩
theorem SI.swap {w W : World} {blk off : Nat} {d : Array Int} (h : SI w blk off d W) (i j : Nat) (hi : i < d.size) (hj : j < d.size) :
    SI w blk off (Sort.swp d i j) ((W.setCell ⟨blk, off + i, none⟩ (.int .i64 d[j]!)).setCell ⟨blk, off + j, none⟩ (.int .i64 d[i]!)) := by
  refine ⟨?_, grown_set (grown_set h.2 _) _⟩
  have e := Sort.putRow_swp (Value.int .i64) W blk off d i j hi hj
  rw [Sort.putRow_self _ W blk off d h.1] at e
  show Sort.Holds (Value.int .i64) _ blk off _
  rw [e]
  exact Sort.holds_putRow (Value.int .i64) W blk off d _ h.1 (Sort.size_swp d i j)
/-- All are places. -/
def Pl (n : Nat) (d : Array Int) : Prop := ∀ i, 0 ≤ i → i < d.size → ∃ x : Nat, d[i]! = (x : Int) ∧ x < n
theorem Pl.perm {n : Nat} {d d' : Array Int} (h : Pl n d) (p : Sort.PermIn 0 d.size d d') : Pl n d' := by
  have := Sort.permIn_all d d' 0 d.size (fun z => ∃ x : Nat, z = (x : Int) ∧ x < n) (Nat.le_refl _) p h
  intro i h0 hi
  exact this i h0 (by rw [p.1] at hi; exact hi)
/-- The comparator tells a number of two places, whatever has been written to the row. -/
def CmpW (w : World) (blk n : Nat) (p2 p3 : Value) : Prop := ∀ W, w.grownBy W (some blk) → ∀ x y : Nat, x < n → y < n → Calls Tryz.prog 116 #[.int .i64 (x : Int), .int .i64 (y : Int), p2, p3] W fun e w' => ∃ m : Int, e = .returned (.int .i64 m) ∧ Below W.heap.size W w'
def InO (w : World) (blk off a b : Nat) (d : Array Int) (vi : Value) (wr : World) : Prop :=
  ∃ (i : Nat) (dk : Array Int), vi = .int .i64 i ∧ a < i ∧ i ≤ b + 1 ∧ Sort.PermIn 0 d.size d dk ∧ SI w blk off dk wr
def InI (w : World) (blk off a i : Nat) (d : Array Int) (vj : Value) (wr : World) : Prop :=
  ∃ (j : Nat) (dj : Array Int), vj = .int .i64 j ∧ a ≤ j ∧ j ≤ i ∧ Sort.PermIn 0 d.size d dj ∧ SI w blk off dj wr
theorem insert_any (blk off cap a b n : Nat) (p2 p3 : Value) (d : Array Int) (w : World) (hH : HI w blk off d) (hP : Pl n d) (hab : a ≤ b) (hb : b ≤ d.size) (hsz : d.size ≤ 1000) (hC : CmpW w blk n p2 p3) :
    Calls Tryz.prog 126 #[.slice (some ⟨blk, off, none⟩) d.size cap, .int .i64 a, .int .i64 b, .func (.func 116) #[] #[p2, p3]] w fun e w' =>
      e = .returned (.tuple #[]) ∧ ∃ d', Sort.PermIn 0 d.size d d' ∧ SI w blk off d' w' := by
  have HH := Lib.hid hH
  have HP := Lib.hid hP
  have HC := Lib.hid hC
  clear hH hP hC
  go_enter Tryz.func126, Tryz.ntmps126
  go_wp2
  go_loopw [8] (fun vi wr => InO w blk off a b d vi wr) (fun vi _ => b + 1 - nOf vi)
  case atStart => exact ⟨a + 1, d, by simp, by omega, by omega, Sort.permIn_refl _ _ _, SI.start HH.out⟩
  case round =>
    obtain ⟨i, dk, rfl, hai, hib, hp, hs⟩ := hrel
    have HPk := Lib.hid hp
    have HS := Lib.hid hs
    clear hp hs
    go_wp2
    · rename i < b => hlt
      have HLT := Lib.hid (show i < b from hlt)
      have hib2 : i ≤ d.size := by omega
      clear hlt
      go_loopw [9] (fun vj wr => InI w blk off a i d vj wr) (fun vj _ => nOf vj)
      case atStart => exact ⟨i, dk, rfl, by omega, Nat.le_refl _, HPk.out, HS.out⟩
      case round =>
        clear HPk HS
        obtain ⟨j, dj, rfl, haj, hji, hp, hs⟩ := hrel
        have HPj := Lib.hid hp
        have HSj := Lib.hid hs
        have hsz2 : dj.size = d.size := hp.1
        clear hp hs
        by_cases hja : a < j
        · obtain ⟨x, hx, hxn⟩ := (HP.out.perm HPj.out) j (by omega) (by have := HLT.out; omega)
          obtain ⟨y, hy, hyn⟩ := (HP.out.perm HPj.out) (j - 1) (by omega) (by have := HLT.out; omega)
          have c1 := HSj.out.c j (by have := HLT.out; omega)
          have c2 := HSj.out.c (j - 1) (by have := HLT.out; omega)
          have f1 := HSj.out.f j (by have := HLT.out; omega)
          have f2 := HSj.out.f (j - 1) (by have := HLT.out; omega)
          rw [hx] at c1
          rw [hy] at c2
          have CC := Lib.hid (fun W (hg : w.grownBy W (some blk)) => HC.out W hg x y hxn hyn)
          have HXY := Lib.hid (And.intro hx hy)
          clear hx hy
          have BL : blk < wr.heap.size := World.block_lt_of_cell? wr ⟨blk, off + j, none⟩ c1
          have HS : Hid (∀ W, Below wr.heap.size wr W → W.cell? ⟨blk, off + j, none⟩ = some (.int .i64 (x : Int)) ∧ W.cell? ⟨blk, off + (j - 1), none⟩ = some (.int .i64 (y : Int)) ∧ Below wr.heap.size wr W) := Lib.hid fun W hB => by
            have q1 : ∀ x, W.cell? ⟨blk, x, none⟩ = wr.cell? ⟨blk, x, none⟩ := fun x => World.cell?_of_block (w := wr) (w' := W) (a := ⟨blk, x, none⟩) (hB.block blk BL)
            simp only [q1]
            exact ⟨c1, c2, hB⟩
          have hjz : (a : Int) < (j : Int) := by omega
          have hjd : j < d.size := by have := HLT.out; omega
          have hje : j - 1 < d.size := by omega
          have hjw : IntKind.i64.wrap ((j : Int) - 1) = ((j - 1 : Nat) : Int) := by
            have e : ((j : Int) - 1) = ((j - 1 : Nat) : Int) := by omega
            rw [e]
            exact IntWalk.i64_in _ (by omega)
          go_wp2_with fail
          refine wp_region_held_drew (S := (fun W => W.cell? ⟨blk, off + j, none⟩ = some (.int .i64 (x : Int)) ∧ W.cell? ⟨blk, off + (j - 1), none⟩ = some (.int .i64 (y : Int)) ∧ Below wr.heap.size wr W)) (by kernel_rfl) (HS.out _ (Below.drew (Below.refl _ _))) (fun hHeld => ?_)
          refine wpAnyH_take (i := 0) (v := ?v0) rfl (by kernel_rfl) (by kernel_rfl) (by kernel_rfl) (fun _ _ _ h => h) (Or.inl ⟨by rfl, ?y0⟩) hHeld ?r0
          case y0 => (intro W hSw; simp only [List.getElem_toArray, List.getElem_cons_zero]; go_simp; try (with_reducible rfl))
          simp only [List.getElem_toArray, List.getElem_cons_zero, Act.put, List.setIfInBounds_toArray, List.set_cons_zero, List.set_cons_succ]
          refine wpAnyH_take (i := 1) (v := ?v1) rfl (by kernel_rfl) (by kernel_rfl) (by kernel_rfl) (fun _ _ _ h => h) (Or.inl ⟨by rfl, ?y1⟩) hHeld ?r1
          case y1 => (intro W hSw; simp only [List.getElem_toArray, List.getElem_cons_succ, List.getElem_cons_zero]; go_simp; try (with_reducible rfl))
          simp only [List.getElem_toArray, List.getElem_cons_succ, List.getElem_cons_zero, Act.put, List.setIfInBounds_toArray, List.set_cons_zero, List.set_cons_succ]
          refine wpAnyH_take (i := 2) (v := ?v2) rfl (by kernel_rfl) (by kernel_rfl) (by kernel_rfl) (fun _ _ _ h => h) (Or.inl ⟨by rfl, ?y2⟩) hHeld ?r2
          case y2 => (intro W hSw; simp only [List.getElem_toArray, List.getElem_cons_succ, List.getElem_cons_zero]; go_simp; try (with_reducible rfl))
          simp only [List.getElem_toArray, List.getElem_cons_succ, List.getElem_cons_zero, Act.put, List.setIfInBounds_toArray, List.set_cons_zero, List.set_cons_succ]
          refine wpAnyH_take (i := 3) (v := ?v3) rfl (by kernel_rfl) (by kernel_rfl) (by kernel_rfl) (fun _ _ _ h => h) (Or.inl ⟨by rfl, ?y3⟩) hHeld ?r3
          case y3 => (intro W hSw; simp only [List.getElem_toArray, List.getElem_cons_succ, List.getElem_cons_zero]; go_simp; try (with_reducible rfl))
          simp only [List.getElem_toArray, List.getElem_cons_succ, List.getElem_cons_zero, Act.put, List.setIfInBounds_toArray, List.set_cons_zero, List.set_cons_succ]
          refine wpAnyH_take (i := 4) (v := ?v4) rfl (by kernel_rfl) (by kernel_rfl) (by kernel_rfl) (fun _ _ _ h => h) (Or.inl ⟨by rfl, ?y4⟩) hHeld ?r4
          case y4 => (intro W hSw; simp only [List.getElem_toArray, List.getElem_cons_succ, List.getElem_cons_zero]; go_simp; try (with_reducible rfl))
          simp only [List.getElem_toArray, List.getElem_cons_succ, List.getElem_cons_zero, Act.put, List.setIfInBounds_toArray, List.set_cons_zero, List.set_cons_succ]
          refine wpAnyH_take (i := 5) (v := ?v5) rfl (by kernel_rfl) (by kernel_rfl) (by kernel_rfl) (fun _ _ _ h => h) (Or.inl ⟨by rfl, ?y5⟩) hHeld ?r5
          case y5 => (intro W hSw; simp only [List.getElem_toArray, List.getElem_cons_succ, List.getElem_cons_zero]; go_simp; try (with_reducible rfl))
          simp only [List.getElem_toArray, List.getElem_cons_succ, List.getElem_cons_zero, Act.put, List.setIfInBounds_toArray, List.set_cons_zero, List.set_cons_succ]
          refine wpAnyH_take (i := 6) (v := ?v6) rfl (by kernel_rfl) (by kernel_rfl) (by kernel_rfl) (fun _ _ _ h => h) (Or.inl ⟨by rfl, ?y6⟩) hHeld ?r6
          case y6 => (intro W hSw; simp only [List.getElem_toArray, List.getElem_cons_succ, List.getElem_cons_zero]; go_simp; try (with_reducible rfl))
          simp only [List.getElem_toArray, List.getElem_cons_succ, List.getElem_cons_zero, Act.put, List.setIfInBounds_toArray, List.set_cons_zero, List.set_cons_succ]
          refine wpAnyH_take (i := 7) (v := ?v7) rfl (by kernel_rfl) (by kernel_rfl) (by kernel_rfl) (fun _ _ _ h => h) (Or.inl ⟨by rfl, ?y7⟩) hHeld ?r7
          case y7 => (intro W hSw; simp only [List.getElem_toArray, List.getElem_cons_succ, List.getElem_cons_zero]; go_simp; try (with_reducible rfl))
          simp only [List.getElem_toArray, List.getElem_cons_succ, List.getElem_cons_zero, Act.put, List.setIfInBounds_toArray, List.set_cons_zero, List.set_cons_succ]
          refine wpAnyH_take (i := 8) (v := ?v8) rfl (by kernel_rfl) (by kernel_rfl) (by kernel_rfl) (fun _ _ _ h => h) (Or.inl ⟨by rfl, ?y8⟩) hHeld ?r8
          case y8 => (intro W hSw; simp only [List.getElem_toArray, List.getElem_cons_succ, List.getElem_cons_zero]; go_simp; try (with_reducible rfl))
          simp only [List.getElem_toArray, List.getElem_cons_succ, List.getElem_cons_zero, Act.put, List.setIfInBounds_toArray, List.set_cons_zero, List.set_cons_succ]
          refine wpAnyH_take (i := 9) (v := ?v9) rfl (by kernel_rfl) (by kernel_rfl) (by kernel_rfl) (fun _ _ _ h => h) (Or.inl ⟨by rfl, ?y9⟩) hHeld ?r9
          case y9 => (intro W hSw; simp only [List.getElem_toArray, List.getElem_cons_succ, List.getElem_cons_zero]; go_simp; try (with_reducible rfl))
          simp only [List.getElem_toArray, List.getElem_cons_succ, List.getElem_cons_zero, Act.put, List.setIfInBounds_toArray, List.set_cons_zero, List.set_cons_succ]
          refine wpAnyH_take (i := 10) (v := ?v10) rfl (by kernel_rfl) (by kernel_rfl) (by kernel_rfl) (fun _ _ _ h => h) (Or.inl ⟨by rfl, ?y10⟩) hHeld ?r10
          case y10 => (intro W hSw; simp only [List.getElem_toArray, List.getElem_cons_succ, List.getElem_cons_zero]; go_simp; try (with_reducible rfl))
          simp only [List.getElem_toArray, List.getElem_cons_succ, List.getElem_cons_zero, Act.put, List.setIfInBounds_toArray, List.set_cons_zero, List.set_cons_succ]
          refine wpAnyH_take (i := 11) (v := ?v11) rfl (by kernel_rfl) (by kernel_rfl) (by kernel_rfl) (fun _ _ _ h => h) (Or.inl ⟨by rfl, ?y11⟩) hHeld ?r11
          case y11 => (intro W hSw; simp only [List.getElem_toArray, List.getElem_cons_succ, List.getElem_cons_zero]; go_simp; try (with_reducible rfl))
          simp only [List.getElem_toArray, List.getElem_cons_succ, List.getElem_cons_zero, Act.put, List.setIfInBounds_toArray, List.set_cons_zero, List.set_cons_succ]
          refine wpAnyH_take (i := 12) (v := ?v12) rfl (by kernel_rfl) (by kernel_rfl) (by kernel_rfl) (fun _ _ _ h => h) (Or.inl ⟨by rfl, ?y12⟩) hHeld ?r12
          case y12 => (intro W hSw; simp only [List.getElem_toArray, List.getElem_cons_succ, List.getElem_cons_zero]; go_simp; try (with_reducible rfl))
          simp only [List.getElem_toArray, List.getElem_cons_succ, List.getElem_cons_zero, Act.put, List.setIfInBounds_toArray, List.set_cons_zero, List.set_cons_succ]
          refine wpAnyH_take (i := 13) (v := ?v13) rfl (by kernel_rfl) (by kernel_rfl) (by kernel_rfl) (fun _ _ _ h => h) (Or.inl ⟨by rfl, ?y13⟩) hHeld ?r13
          case y13 => (intro W hSw; simp only [List.getElem_toArray, List.getElem_cons_succ, List.getElem_cons_zero]; go_simp; try (with_reducible rfl))
          simp only [List.getElem_toArray, List.getElem_cons_succ, List.getElem_cons_zero, Act.put, List.setIfInBounds_toArray, List.set_cons_zero, List.set_cons_succ]
          refine wpAnyH_ready (rs := [14]) (by kernel_rfl) (by simp) (AllReadyH.cons rfl (fun K hK => ?_) AllReadyH.nil)
          simp only [List.getElem_toArray, List.getElem_cons_succ, List.getElem_cons_zero]
          go_simp
          go_at_call 116; refine (CC.out _ (grown_trans HSj.out.2 (grown_any hHeld.2.2))).mono ?_; rintro e w1 ⟨m, rfl, hb1⟩
          try go_wp2_with fail
          refine hK.out _ _ (by exact HS.out _ (hHeld.2.2.trans (hb1.mono hHeld.2.2.size))) (fun hHeld1 => ?_)
          clear hK K hHeld
          have hHeld := hHeld1; clear hHeld1
          try simp only [List.getElem_toArray, List.getElem_cons_succ, List.getElem_cons_zero, Act.put, List.setIfInBounds_toArray, List.set_cons_zero, List.set_cons_succ]
          refine wpAnyH_take (i := 15) (v := ?v15) rfl (by kernel_rfl) (by kernel_rfl) (by kernel_rfl) (fun _ _ _ h => h) (Or.inl ⟨by rfl, ?y15⟩) hHeld ?r15
          case y15 => (intro W hSw; simp only [List.getElem_toArray, List.getElem_cons_succ, List.getElem_cons_zero]; go_simp; try (with_reducible rfl))
          simp only [List.getElem_toArray, List.getElem_cons_succ, List.getElem_cons_zero, Act.put, List.setIfInBounds_toArray, List.set_cons_zero, List.set_cons_succ]
          refine wpAnyH_take (i := 16) (v := ?v16) rfl (by kernel_rfl) (by kernel_rfl) (by kernel_rfl) (fun _ _ _ h => h) (Or.inl ⟨by rfl, ?y16⟩) hHeld ?r16
          case y16 => (intro W hSw; simp only [List.getElem_toArray, List.getElem_cons_succ, List.getElem_cons_zero]; go_simp; try (with_reducible rfl))
          simp only [List.getElem_toArray, List.getElem_cons_succ, List.getElem_cons_zero, Act.put, List.setIfInBounds_toArray, List.set_cons_zero, List.set_cons_succ]
          refine wpAnyH_done (by kernel_rfl) ?_ _
          have SB := Lib.hid (HSj.out.below hHeld.2.2)
          clear hHeld c1 c2 f1 f2
          obtain ⟨G, hG⟩ : ∃ G : Nat → Int, ∀ t, G t = dj[t]! := ⟨fun t => dj[t]!, fun _ => rfl⟩
          have hcw : ∀ t, t < d.size → w1.cell? ⟨blk, off + t, none⟩ = some (.int .i64 (G t)) := fun t ht => by rw [hG]; exact SB.out.c t (by omega)
          have hfw : ∀ t, t < d.size → w1.frozen? ⟨blk, off + t, none⟩ = false := fun t ht => SB.out.f t (by omega)
          have HG := Lib.hid hG
          have HSZ := Lib.hid hsz2
          clear hG hsz2
          go_wp2_with fail
          · go_region
            all_goals go_wp2_with fail
            go_roundw
            case rel =>
              refine ⟨j - 1, Sort.swp dj j (j - 1), by congr 1, by omega, by omega, ?_, ?_⟩
              · exact Sort.permIn_trans _ _ _ _ _ HPj.out (by
                  have := Sort.swp_permIn dj 0 d.size j (j - 1) (Nat.zero_le _) (by omega) (Nat.zero_le _) (by omega) (by rw [HSZ.out]; exact Nat.le_refl _)
                  exact this)
              · rw [HG.out, HG.out]
                exact (SB.out.swap j (j - 1) (by rw [HSZ.out]; omega) (by rw [HSZ.out]; omega)).drew
            case measure => have := HLT.out; simp [nOf]; omega
          · go_roundw
            case rel => exact ⟨i + 1, dj, by go_num, by omega, by have := HLT.out; omega, HPj.out, SB.out⟩
            case measure => have := HLT.out; simp [nOf]; omega
        · have hjz : ¬ (a : Int) < (j : Int) := by omega
          go_wp2_with fail
          refine wp_region_held_drew (S := (fun W => Below wr.heap.size wr W)) (by kernel_rfl) (Below.drew (Below.refl _ _)) (fun hHeld => ?_)
          refine wpAnyH_take (i := 0) (v := ?vf0) rfl (by kernel_rfl) (by kernel_rfl) (by kernel_rfl) (fun _ _ _ h => h) (Or.inl ⟨by rfl, ?yf0⟩) hHeld ?rf0
          case yf0 => (intro W hSw; simp only [List.getElem_toArray, List.getElem_cons_zero]; go_simp; try (with_reducible rfl))
          simp only [List.getElem_toArray, List.getElem_cons_zero, Act.put, List.setIfInBounds_toArray, List.set_cons_zero, List.set_cons_succ]
          refine wpAnyH_take (i := 1) (v := ?vf1) rfl (by kernel_rfl) (by kernel_rfl) (by kernel_rfl) (fun _ _ _ h => h) (Or.inl ⟨by rfl, ?yf1⟩) hHeld ?rf1
          case yf1 => (intro W hSw; simp only [List.getElem_toArray, List.getElem_cons_succ, List.getElem_cons_zero]; go_simp; try (with_reducible rfl))
          simp only [List.getElem_toArray, List.getElem_cons_succ, List.getElem_cons_zero, Act.put, List.setIfInBounds_toArray, List.set_cons_zero, List.set_cons_succ]
          refine wpAnyH_take (i := 2) (v := ?vf2) rfl (by kernel_rfl) (by kernel_rfl) (by kernel_rfl) (fun _ _ _ h => h) (Or.inl ⟨by rfl, ?yf2⟩) hHeld ?rf2
          case yf2 => (intro W hSw; simp only [List.getElem_toArray, List.getElem_cons_succ, List.getElem_cons_zero]; go_simp; try (with_reducible rfl))
          simp only [List.getElem_toArray, List.getElem_cons_succ, List.getElem_cons_zero, Act.put, List.setIfInBounds_toArray, List.set_cons_zero, List.set_cons_succ]
          refine wpAnyH_take (i := 3) (v := ?vf3) rfl (by kernel_rfl) (by kernel_rfl) (by kernel_rfl) (fun _ _ _ h => h) (Or.inl ⟨by rfl, ?yf3⟩) hHeld ?rf3
          case yf3 => (intro W hSw; simp only [List.getElem_toArray, List.getElem_cons_succ, List.getElem_cons_zero]; go_simp; try (with_reducible rfl))
          simp only [List.getElem_toArray, List.getElem_cons_succ, List.getElem_cons_zero, Act.put, List.setIfInBounds_toArray, List.set_cons_zero, List.set_cons_succ]
          refine wpAnyH_take (i := 4) (v := undef) rfl (by kernel_rfl) (by kernel_rfl) (by kernel_rfl) (fun _ _ _ h => h) (Or.inr ⟨by rfl, rfl⟩) hHeld ?_
          simp only [List.getElem_toArray, List.getElem_cons_succ, List.getElem_cons_zero, Act.put, List.setIfInBounds_toArray, List.set_cons_zero, List.set_cons_succ]
          refine wpAnyH_take (i := 5) (v := undef) rfl (by kernel_rfl) (by kernel_rfl) (by kernel_rfl) (fun _ _ _ h => h) (Or.inr ⟨by rfl, rfl⟩) hHeld ?_
          simp only [List.getElem_toArray, List.getElem_cons_succ, List.getElem_cons_zero, Act.put, List.setIfInBounds_toArray, List.set_cons_zero, List.set_cons_succ]
          refine wpAnyH_take (i := 6) (v := undef) rfl (by kernel_rfl) (by kernel_rfl) (by kernel_rfl) (fun _ _ _ h => h) (Or.inr ⟨by rfl, rfl⟩) hHeld ?_
          simp only [List.getElem_toArray, List.getElem_cons_succ, List.getElem_cons_zero, Act.put, List.setIfInBounds_toArray, List.set_cons_zero, List.set_cons_succ]
          refine wpAnyH_take (i := 7) (v := undef) rfl (by kernel_rfl) (by kernel_rfl) (by kernel_rfl) (fun _ _ _ h => h) (Or.inr ⟨by rfl, rfl⟩) hHeld ?_
          simp only [List.getElem_toArray, List.getElem_cons_succ, List.getElem_cons_zero, Act.put, List.setIfInBounds_toArray, List.set_cons_zero, List.set_cons_succ]
          refine wpAnyH_take (i := 8) (v := undef) rfl (by kernel_rfl) (by kernel_rfl) (by kernel_rfl) (fun _ _ _ h => h) (Or.inr ⟨by rfl, rfl⟩) hHeld ?_
          simp only [List.getElem_toArray, List.getElem_cons_succ, List.getElem_cons_zero, Act.put, List.setIfInBounds_toArray, List.set_cons_zero, List.set_cons_succ]
          refine wpAnyH_take (i := 9) (v := undef) rfl (by kernel_rfl) (by kernel_rfl) (by kernel_rfl) (fun _ _ _ h => h) (Or.inr ⟨by rfl, rfl⟩) hHeld ?_
          simp only [List.getElem_toArray, List.getElem_cons_succ, List.getElem_cons_zero, Act.put, List.setIfInBounds_toArray, List.set_cons_zero, List.set_cons_succ]
          refine wpAnyH_take (i := 10) (v := undef) rfl (by kernel_rfl) (by kernel_rfl) (by kernel_rfl) (fun _ _ _ h => h) (Or.inr ⟨by rfl, rfl⟩) hHeld ?_
          simp only [List.getElem_toArray, List.getElem_cons_succ, List.getElem_cons_zero, Act.put, List.setIfInBounds_toArray, List.set_cons_zero, List.set_cons_succ]
          refine wpAnyH_take (i := 11) (v := undef) rfl (by kernel_rfl) (by kernel_rfl) (by kernel_rfl) (fun _ _ _ h => h) (Or.inr ⟨by rfl, rfl⟩) hHeld ?_
          simp only [List.getElem_toArray, List.getElem_cons_succ, List.getElem_cons_zero, Act.put, List.setIfInBounds_toArray, List.set_cons_zero, List.set_cons_succ]
          refine wpAnyH_take (i := 12) (v := undef) rfl (by kernel_rfl) (by kernel_rfl) (by kernel_rfl) (fun _ _ _ h => h) (Or.inr ⟨by rfl, rfl⟩) hHeld ?_
          simp only [List.getElem_toArray, List.getElem_cons_succ, List.getElem_cons_zero, Act.put, List.setIfInBounds_toArray, List.set_cons_zero, List.set_cons_succ]
          refine wpAnyH_take (i := 13) (v := undef) rfl (by kernel_rfl) (by kernel_rfl) (by kernel_rfl) (fun _ _ _ h => h) (Or.inr ⟨by rfl, rfl⟩) hHeld ?_
          simp only [List.getElem_toArray, List.getElem_cons_succ, List.getElem_cons_zero, Act.put, List.setIfInBounds_toArray, List.set_cons_zero, List.set_cons_succ]
          refine wpAnyH_take (i := 14) (v := undef) rfl (by kernel_rfl) (by kernel_rfl) (by kernel_rfl) (fun _ _ _ h => h) (Or.inr ⟨by rfl, rfl⟩) hHeld ?_
          simp only [List.getElem_toArray, List.getElem_cons_succ, List.getElem_cons_zero, Act.put, List.setIfInBounds_toArray, List.set_cons_zero, List.set_cons_succ]
          refine wpAnyH_take (i := 15) (v := undef) rfl (by kernel_rfl) (by kernel_rfl) (by kernel_rfl) (fun _ _ _ h => h) (Or.inr ⟨by rfl, rfl⟩) hHeld ?_
          simp only [List.getElem_toArray, List.getElem_cons_succ, List.getElem_cons_zero, Act.put, List.setIfInBounds_toArray, List.set_cons_zero, List.set_cons_succ]
          refine wpAnyH_take (i := 16) (v := ?vf16) rfl (by kernel_rfl) (by kernel_rfl) (by kernel_rfl) (fun _ _ _ h => h) (Or.inl ⟨by rfl, ?yf16⟩) hHeld ?rf16
          case yf16 => (intro W hSw; simp only [List.getElem_toArray, List.getElem_cons_succ, List.getElem_cons_zero]; go_simp; try (with_reducible rfl))
          simp only [List.getElem_toArray, List.getElem_cons_succ, List.getElem_cons_zero, Act.put, List.setIfInBounds_toArray, List.set_cons_zero, List.set_cons_succ]
          refine wpAnyH_done (by kernel_rfl) ?_ _
          clear hHeld
          go_wp2_with fail
          go_roundw
          case rel => exact ⟨i + 1, dj, by go_num, by omega, by have := HLT.out; omega, HPj.out, HSj.out.drew⟩
          case measure => have := HLT.out; simp [nOf]; omega
    · have hge : ¬ i < b := by assumption
      go_end0
      exact ⟨rfl, dk, HPk.out, HS.out⟩
end Go.Proofs.YtobkgamcjfjghaaGreat.Rs
