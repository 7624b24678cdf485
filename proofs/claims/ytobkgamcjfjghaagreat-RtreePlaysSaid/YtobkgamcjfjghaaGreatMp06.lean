/-
  Contract of package rsplit's Farthest: for fewer than twenty rectangles, so many of their places, each once. Memory that was there is left as it was.
-/
import Derived.Test.YtobkgamcjfjghaaGreatMp05
import Derived.OwnWalk
import Derived.KernelRfl
/-
  Contracts of slices.stableCmpFunc, SortStableFunc at places, of which there are fewer than twenty: the row holds a permutation.
-/
namespace Go.Proofs.YtobkgamcjfjghaaGreat.Rs
open Go.RowKit Go.Proofs.YtobkgamcjfjghaaGreat.So
set_option linter.unusedVariables false
set_option linter.unusedSimpArgs false
set_option maxHeartbeats 4000000
set_option maxRecDepth 100000
def Sorted (w : World) (blk off : Nat) (d : Array Int) (e : Ending) (w' : World) : Prop := e = .returned (.tuple #[]) ∧ ∃ d', Sort.PermIn 0 d.size d d' ∧ SI w blk off d' w'
theorem stable_any (blk off cap n : Nat) (p2 p3 : Value) (d : Array Int) (w : World) (hH : HI w blk off d) (hP : Pl n d) (hsz : d.size < 20) (hC : CmpW w blk n p2 p3) :
    Calls Tryz.prog 124 #[.slice (some ⟨blk, off, none⟩) d.size cap, .int .i64 d.size, .func (.func 116) #[] #[p2, p3]] w (Sorted w blk off d) := by
  have CI := Lib.hid (insert_any blk off cap 0 d.size n p2 p3 d w hH hP (Nat.zero_le _) (Nat.le_refl _) (by omega) hC)
  clear hH hP hC
  obtain ⟨m, hm⟩ : ∃ m, m = d.size := ⟨_, rfl⟩
  have h1 : ¬ (20 : Int) ≤ (m : Int) := by omega
  have h2 : ¬ (20 : Int) < (m : Int) := by omega
  rw [← hm] at CI hsz ⊢
  have HM := Lib.hid hm
  clear hm
  go_enter Tryz.func124, Tryz.ntmps124
  go_wp2_with fail
  go_loopw [7, 8] (fun v7 v8 wr => v7 = .int .i64 0 ∧ v8 = .int .i64 20 ∧ wr = w) (fun _ _ _ => 0)
  case atStart => exact ⟨rfl, rfl, rfl⟩
  case round =>
    obtain ⟨rfl, rfl, rfl⟩ := hrel
    go_wp2_with fail
    refine Calls.mono CI.out ?_
    rintro e w1 ⟨rfl, d', hp, hs⟩
    have HD := Lib.hid (And.intro hp hs)
    clear hp hs
    go_wp2_with fail
    go_loopw [6, 7, 8, 9] (fun v6 v7 v8 v9 wr => v6 = .int .i64 20 ∧ wr = w1) (fun _ _ _ _ _ => 0)
    case atStart => exact ⟨rfl, rfl⟩
    case round =>
      obtain ⟨rfl, rfl⟩ := hrel
      go_wp2_with fail
      go_end0
      rw [HM.out] at HD
      exact ⟨rfl, d', HD.out.1, HD.out.2⟩
theorem sortStable_any (blk off cap n : Nat) (p2 p3 : Value) (d : Array Int) (w : World) (hH : HI w blk off d) (hP : Pl n d) (hsz : d.size < 20) (hC : CmpW w blk n p2 p3) :
    Calls Tryz.prog 115 #[.slice (some ⟨blk, off, none⟩) d.size cap, .func (.func 116) #[] #[p2, p3]] w (Sorted w blk off d) := by
  have CI := Lib.hid (stable_any blk off cap n p2 p3 d w hH hP hsz hC)
  clear hH hP hC
  obtain ⟨m, hm⟩ : ∃ m, m = d.size := ⟨_, rfl⟩
  rw [← hm] at CI hsz ⊢
  have HM := Lib.hid hm
  clear hm
  go_enter Tryz.func115, Tryz.ntmps115
  go_wp2_with fail
  refine Calls.mono CI.out ?_
  rintro e w1 ⟨rfl, hd⟩
  go_wp2_with fail
  go_end0
  exact ⟨rfl, hd⟩
end Go.Proofs.YtobkgamcjfjghaaGreat.Rs
/-
  The comparator of places, with each comparator of rectangles that there is: of two places it tells some number. Memory that was there is left as it was.
-/
namespace Go.Proofs.YtobkgamcjfjghaaGreat.Rs
open Go.RowKit Go.Proofs.YtobkgamcjfjghaaGreat.Pt Go.Proofs.YtobkgamcjfjghaaGreat.Rc Go.Proofs.YtobkgamcjfjghaaGreat.Pts Go.Proofs.YtobkgamcjfjghaaGreat.So
set_option linter.unusedVariables false
set_option linter.unusedSimpArgs false
set_option maxHeartbeats 4000000
set_option maxRecDepth 100000
theorem Rk.below {w W : World} {g : Nat} (h : Rk w g) (hb : Below w.heap.size w W) : Rk W g := by
  obtain ⟨r, hm, hr⟩ := h
  exact ⟨r, hm, hr.later hb⟩
theorem cellB {w W : World} {z g x : Nat} {v : Value} (hb : Below z w W) (hg : g < z) (h : w.cell? ⟨g, x, none⟩ = some v) : W.cell? ⟨g, x, none⟩ = some v :=
  (World.cell?_of_block (w := w) (w' := W) (a := ⟨g, x, none⟩) (hb.block g hg)).trans h
theorem at_lowX (g2 g3 : Nat) (a : Option Addr) (c : Nat) (l : List R4) (x y : Nat) (w : World) (h2 : w.cell? ⟨g2, 0, none⟩ = some (.func (.func 109) #[.func (.func 85) #[] #[]] #[])) (h3 : w.cell? ⟨g3, 0, none⟩ = some (.slice a l.length c)) (hl : RsAt w w.heap.size a l) (hx : x < l.length) (hy : y < l.length) :
    Calls Tryz.prog 116 #[.int .i64 (x : Int), .int .i64 (y : Int), .pointer (some ⟨g2, 0, none⟩), .pointer (some ⟨g3, 0, none⟩)] w fun e w' => ∃ m : Int, e = .returned (.int .i64 m) ∧ Below w.heap.size w w' := by
  obtain ⟨g, o, rfl, hg, ⟨ax1, ay1, ax2, ay2⟩, hra, -, c0, c1, c2, c3⟩ := hl.at hx
  obtain ⟨g', o', e, hg', ⟨bx1, by1, bx2, by2⟩, hrb, -, d0, d1, d2, d3⟩ := hl.at hy
  cases e
  have h100 := hl.1
  obtain ⟨n, hn⟩ : ∃ n, n = l.length := ⟨_, rfl⟩
  rw [← hn] at h3 hx hy h100
  clear hl hn hra hrb hg'
  dsimp only at c0 c1 c2 c3 d0 d1 d2 d3
  have l2 : g2 < w.heap.size := World.block_lt_of_cell? w ⟨g2, 0, none⟩ h2
  have l3 : g3 < w.heap.size := World.block_lt_of_cell? w ⟨g3, 0, none⟩ h3
  have HS : Hid (∀ W, Below w.heap.size w W → W.cell? ⟨g2, 0, none⟩ = some (.func (.func 109) #[.func (.func 85) #[] #[]] #[]) ∧ W.cell? ⟨g3, 0, none⟩ = some (.slice (some ⟨g, o, none⟩) n c) ∧ W.cell? ⟨g, o + x * 4, none⟩ = some (.int .i64 ax1) ∧ W.cell? ⟨g, o + x * 4 + 1, none⟩ = some (.int .i64 ay1) ∧ W.cell? ⟨g, o + x * 4 + 2, none⟩ = some (.int .i64 ax2) ∧ W.cell? ⟨g, o + x * 4 + 3, none⟩ = some (.int .i64 ay2) ∧ W.cell? ⟨g, o + y * 4, none⟩ = some (.int .i64 bx1) ∧ W.cell? ⟨g, o + y * 4 + 1, none⟩ = some (.int .i64 by1) ∧ W.cell? ⟨g, o + y * 4 + 2, none⟩ = some (.int .i64 bx2) ∧ W.cell? ⟨g, o + y * 4 + 3, none⟩ = some (.int .i64 by2) ∧ Below w.heap.size w W) := Lib.hid fun W hB => ⟨cellB hB l2 h2, cellB hB l3 h3, cellB hB hg c0, cellB hB hg c1, cellB hB hg c2, cellB hB hg c3, cellB hB hg d0, cellB hB hg d1, cellB hB hg d2, cellB hB hg d3, hB⟩
  clear h2 h3 c0 c1 c2 c3 d0 d1 d2 d3
  go_enter Tryz.func116, Tryz.ntmps116
  go_wp2_with fail
  refine wp_region_held_drew (S := (fun W => W.cell? ⟨g2, 0, none⟩ = some (.func (.func 109) #[.func (.func 85) #[] #[]] #[]) ∧ W.cell? ⟨g3, 0, none⟩ = some (.slice (some ⟨g, o, none⟩) n c) ∧ W.cell? ⟨g, o + x * 4, none⟩ = some (.int .i64 ax1) ∧ W.cell? ⟨g, o + x * 4 + 1, none⟩ = some (.int .i64 ay1) ∧ W.cell? ⟨g, o + x * 4 + 2, none⟩ = some (.int .i64 ax2) ∧ W.cell? ⟨g, o + x * 4 + 3, none⟩ = some (.int .i64 ay2) ∧ W.cell? ⟨g, o + y * 4, none⟩ = some (.int .i64 bx1) ∧ W.cell? ⟨g, o + y * 4 + 1, none⟩ = some (.int .i64 by1) ∧ W.cell? ⟨g, o + y * 4 + 2, none⟩ = some (.int .i64 bx2) ∧ W.cell? ⟨g, o + y * 4 + 3, none⟩ = some (.int .i64 by2) ∧ Below w.heap.size w W)) (by kernel_rfl) (HS.out _ (Below.drew (Below.refl _ _))) (fun hHeld => ?_)
  refine wpAnyH_take (i := 0) (v := ?v0) rfl (by kernel_rfl) (by kernel_rfl) (by kernel_rfl) (fun _ _ _ h => h) (Or.inl ⟨by rfl, ?y0⟩) hHeld ?r0
  case y0 => (intro W hSw; simp only [List.getElem_toArray, List.getElem_cons_zero]; go_simp; try (with_reducible rfl))
  simp only [List.getElem_toArray, List.getElem_cons_zero, Act.put, List.setIfInBounds_toArray, List.set_cons_zero, List.set_cons_succ]
  refine wpAnyH_take (i := 1) (v := ?v1) rfl (by kernel_rfl) (by kernel_rfl) (by kernel_rfl) (fun _ _ _ h => h) (Or.inl ⟨by rfl, ?y1⟩) hHeld ?r1
  case y1 => (intro W hSw; simp only [List.getElem_toArray, List.getElem_cons_succ, List.getElem_cons_zero]; go_simp; try (with_reducible rfl))
  simp only [List.getElem_toArray, List.getElem_cons_succ, List.getElem_cons_zero, Act.put, List.setIfInBounds_toArray, List.set_cons_zero, List.set_cons_succ]
  refine wpAnyH_take (i := 2) (v := ?v2) rfl (by kernel_rfl) (by kernel_rfl) (by kernel_rfl) (fun _ _ _ h => h) (Or.inl ⟨by rfl, ?y2⟩) hHeld ?r2
  case y2 => (intro W hSw; simp only [List.getElem_toArray, List.getElem_cons_succ, List.getElem_cons_zero]; go_simp; try (with_reducible rfl))
  simp only [List.getElem_toArray, List.getElem_cons_succ, List.getElem_cons_zero, Act.put, List.setIfInBounds_toArray, List.set_cons_zero, List.set_cons_succ]
  refine wpAnyH_take (i := 3) (v := ?v3) rfl (by kernel_rfl) (by kernel_rfl) (by kernel_rfl) (fun _ _ _ h => h) (Or.inl ⟨by rfl, ?y3⟩) hHeld ?r3
  case y3 => (intro W hSw; simp only [List.getElem_toArray, List.getElem_cons_succ, List.getElem_cons_zero]; go_simp; try (with_reducible rfl))
  simp only [List.getElem_toArray, List.getElem_cons_succ, List.getElem_cons_zero, Act.put, List.setIfInBounds_toArray, List.set_cons_zero, List.set_cons_succ]
  refine wpAnyH_take (i := 4) (v := ?v4) rfl (by kernel_rfl) (by kernel_rfl) (by kernel_rfl) (fun _ _ _ h => h) (Or.inl ⟨by rfl, ?y4⟩) hHeld ?r4
  case y4 => (intro W hSw; simp only [List.getElem_toArray, List.getElem_cons_succ, List.getElem_cons_zero]; go_simp; try (with_reducible rfl))
  simp only [List.getElem_toArray, List.getElem_cons_succ, List.getElem_cons_zero, Act.put, List.setIfInBounds_toArray, List.set_cons_zero, List.set_cons_succ]
  refine wpAnyH_take (i := 5) (v := ?v5) rfl (by kernel_rfl) (by kernel_rfl) (by kernel_rfl) (fun _ _ _ h => h) (Or.inl ⟨by rfl, ?y5⟩) hHeld ?r5
  case y5 => (intro W hSw; simp only [List.getElem_toArray, List.getElem_cons_succ, List.getElem_cons_zero]; go_simp; try (with_reducible rfl))
  simp only [List.getElem_toArray, List.getElem_cons_succ, List.getElem_cons_zero, Act.put, List.setIfInBounds_toArray, List.set_cons_zero, List.set_cons_succ]
  refine wpAnyH_take (i := 6) (v := ?v6) rfl (by kernel_rfl) (by kernel_rfl) (by kernel_rfl) (fun _ _ _ h => h) (Or.inl ⟨by rfl, ?y6⟩) hHeld ?r6
  case y6 => (intro W hSw; simp only [List.getElem_toArray, List.getElem_cons_succ, List.getElem_cons_zero]; go_simp; try (with_reducible rfl))
  simp only [List.getElem_toArray, List.getElem_cons_succ, List.getElem_cons_zero, Act.put, List.setIfInBounds_toArray, List.set_cons_zero, List.set_cons_succ]
  refine wpAnyH_take (i := 7) (v := ?v7) rfl (by kernel_rfl) (by kernel_rfl) (by kernel_rfl) (fun _ _ _ h => h) (Or.inl ⟨by rfl, ?y7⟩) hHeld ?r7
  case y7 => (intro W hSw; simp only [List.getElem_toArray, List.getElem_cons_succ, List.getElem_cons_zero]; go_simp; try (with_reducible rfl))
  simp only [List.getElem_toArray, List.getElem_cons_succ, List.getElem_cons_zero, Act.put, List.setIfInBounds_toArray, List.set_cons_zero, List.set_cons_succ]
  refine wpAnyH_take (i := 8) (v := ?v8) rfl (by kernel_rfl) (by kernel_rfl) (by kernel_rfl) (fun _ _ _ h => h) (Or.inl ⟨by rfl, ?y8⟩) hHeld ?r8
  case y8 => (intro W hSw; simp only [List.getElem_toArray, List.getElem_cons_succ, List.getElem_cons_zero]; go_simp; try (with_reducible rfl))
  simp only [List.getElem_toArray, List.getElem_cons_succ, List.getElem_cons_zero, Act.put, List.setIfInBounds_toArray, List.set_cons_zero, List.set_cons_succ]
  refine wpAnyH_ready (rs := [9]) (by kernel_rfl) (by simp) (AllReadyH.cons rfl (fun K hK => ?_) AllReadyH.nil)
  simp only [List.getElem_toArray, List.getElem_cons_succ, List.getElem_cons_zero]
  go_simp
  go_at_call 109; refine (by_lowX_any ⟨ax1, ay1, ax2, ay2⟩ ⟨bx1, by1, bx2, by2⟩ _).mono ?_; rintro e w9 ⟨m9, rfl, hb1⟩
  try go_wp2_with fail
  refine hK.out _ _ (by exact HS.out _ (hHeld.2.2.2.2.2.2.2.2.2.2.trans (hb1.mono hHeld.2.2.2.2.2.2.2.2.2.2.size))) (fun hHeld1 => ?_)
  clear hK K hHeld
  have hHeld := hHeld1; clear hHeld1
  try simp only [List.getElem_toArray, List.getElem_cons_succ, List.getElem_cons_zero, Act.put, List.setIfInBounds_toArray, List.set_cons_zero, List.set_cons_succ]
  refine wpAnyH_take (i := 10) (v := ?v10) rfl (by kernel_rfl) (by kernel_rfl) (by kernel_rfl) (fun _ _ _ h => h) (Or.inl ⟨by rfl, ?y10⟩) hHeld ?r10
  case y10 => (intro W hSw; simp only [List.getElem_toArray, List.getElem_cons_succ, List.getElem_cons_zero]; go_simp; try (with_reducible rfl))
  simp only [List.getElem_toArray, List.getElem_cons_succ, List.getElem_cons_zero, Act.put, List.setIfInBounds_toArray, List.set_cons_zero, List.set_cons_succ]
  refine wpAnyH_done (by kernel_rfl) ?_ _
  have HZ := Lib.hid hHeld.2.2.2.2.2.2.2.2.2.2
  clear hHeld
  go_wp2_with fail
  go_ret
  exact ⟨m9, rfl, HZ.out⟩
theorem at_highX (g2 g3 : Nat) (a : Option Addr) (c : Nat) (l : List R4) (x y : Nat) (w : World) (h2 : w.cell? ⟨g2, 0, none⟩ = some (.func (.func 109) #[.func (.func 86) #[] #[]] #[])) (h3 : w.cell? ⟨g3, 0, none⟩ = some (.slice a l.length c)) (hl : RsAt w w.heap.size a l) (hx : x < l.length) (hy : y < l.length) :
    Calls Tryz.prog 116 #[.int .i64 (x : Int), .int .i64 (y : Int), .pointer (some ⟨g2, 0, none⟩), .pointer (some ⟨g3, 0, none⟩)] w fun e w' => ∃ m : Int, e = .returned (.int .i64 m) ∧ Below w.heap.size w w' := by
  obtain ⟨g, o, rfl, hg, ⟨ax1, ay1, ax2, ay2⟩, hra, -, c0, c1, c2, c3⟩ := hl.at hx
  obtain ⟨g', o', e, hg', ⟨bx1, by1, bx2, by2⟩, hrb, -, d0, d1, d2, d3⟩ := hl.at hy
  cases e
  have h100 := hl.1
  obtain ⟨n, hn⟩ : ∃ n, n = l.length := ⟨_, rfl⟩
  rw [← hn] at h3 hx hy h100
  clear hl hn hra hrb hg'
  dsimp only at c0 c1 c2 c3 d0 d1 d2 d3
  have l2 : g2 < w.heap.size := World.block_lt_of_cell? w ⟨g2, 0, none⟩ h2
  have l3 : g3 < w.heap.size := World.block_lt_of_cell? w ⟨g3, 0, none⟩ h3
  have HS : Hid (∀ W, Below w.heap.size w W → W.cell? ⟨g2, 0, none⟩ = some (.func (.func 109) #[.func (.func 86) #[] #[]] #[]) ∧ W.cell? ⟨g3, 0, none⟩ = some (.slice (some ⟨g, o, none⟩) n c) ∧ W.cell? ⟨g, o + x * 4, none⟩ = some (.int .i64 ax1) ∧ W.cell? ⟨g, o + x * 4 + 1, none⟩ = some (.int .i64 ay1) ∧ W.cell? ⟨g, o + x * 4 + 2, none⟩ = some (.int .i64 ax2) ∧ W.cell? ⟨g, o + x * 4 + 3, none⟩ = some (.int .i64 ay2) ∧ W.cell? ⟨g, o + y * 4, none⟩ = some (.int .i64 bx1) ∧ W.cell? ⟨g, o + y * 4 + 1, none⟩ = some (.int .i64 by1) ∧ W.cell? ⟨g, o + y * 4 + 2, none⟩ = some (.int .i64 bx2) ∧ W.cell? ⟨g, o + y * 4 + 3, none⟩ = some (.int .i64 by2) ∧ Below w.heap.size w W) := Lib.hid fun W hB => ⟨cellB hB l2 h2, cellB hB l3 h3, cellB hB hg c0, cellB hB hg c1, cellB hB hg c2, cellB hB hg c3, cellB hB hg d0, cellB hB hg d1, cellB hB hg d2, cellB hB hg d3, hB⟩
  clear h2 h3 c0 c1 c2 c3 d0 d1 d2 d3
  go_enter Tryz.func116, Tryz.ntmps116
  go_wp2_with fail
  refine wp_region_held_drew (S := (fun W => W.cell? ⟨g2, 0, none⟩ = some (.func (.func 109) #[.func (.func 86) #[] #[]] #[]) ∧ W.cell? ⟨g3, 0, none⟩ = some (.slice (some ⟨g, o, none⟩) n c) ∧ W.cell? ⟨g, o + x * 4, none⟩ = some (.int .i64 ax1) ∧ W.cell? ⟨g, o + x * 4 + 1, none⟩ = some (.int .i64 ay1) ∧ W.cell? ⟨g, o + x * 4 + 2, none⟩ = some (.int .i64 ax2) ∧ W.cell? ⟨g, o + x * 4 + 3, none⟩ = some (.int .i64 ay2) ∧ W.cell? ⟨g, o + y * 4, none⟩ = some (.int .i64 bx1) ∧ W.cell? ⟨g, o + y * 4 + 1, none⟩ = some (.int .i64 by1) ∧ W.cell? ⟨g, o + y * 4 + 2, none⟩ = some (.int .i64 bx2) ∧ W.cell? ⟨g, o + y * 4 + 3, none⟩ = some (.int .i64 by2) ∧ Below w.heap.size w W)) (by kernel_rfl) (HS.out _ (Below.drew (Below.refl _ _))) (fun hHeld => ?_)
  refine wpAnyH_take (i := 0) (v := ?v0) rfl (by kernel_rfl) (by kernel_rfl) (by kernel_rfl) (fun _ _ _ h => h) (Or.inl ⟨by rfl, ?y0⟩) hHeld ?r0
  case y0 => (intro W hSw; simp only [List.getElem_toArray, List.getElem_cons_zero]; go_simp; try (with_reducible rfl))
  simp only [List.getElem_toArray, List.getElem_cons_zero, Act.put, List.setIfInBounds_toArray, List.set_cons_zero, List.set_cons_succ]
  refine wpAnyH_take (i := 1) (v := ?v1) rfl (by kernel_rfl) (by kernel_rfl) (by kernel_rfl) (fun _ _ _ h => h) (Or.inl ⟨by rfl, ?y1⟩) hHeld ?r1
  case y1 => (intro W hSw; simp only [List.getElem_toArray, List.getElem_cons_succ, List.getElem_cons_zero]; go_simp; try (with_reducible rfl))
  simp only [List.getElem_toArray, List.getElem_cons_succ, List.getElem_cons_zero, Act.put, List.setIfInBounds_toArray, List.set_cons_zero, List.set_cons_succ]
  refine wpAnyH_take (i := 2) (v := ?v2) rfl (by kernel_rfl) (by kernel_rfl) (by kernel_rfl) (fun _ _ _ h => h) (Or.inl ⟨by rfl, ?y2⟩) hHeld ?r2
  case y2 => (intro W hSw; simp only [List.getElem_toArray, List.getElem_cons_succ, List.getElem_cons_zero]; go_simp; try (with_reducible rfl))
  simp only [List.getElem_toArray, List.getElem_cons_succ, List.getElem_cons_zero, Act.put, List.setIfInBounds_toArray, List.set_cons_zero, List.set_cons_succ]
  refine wpAnyH_take (i := 3) (v := ?v3) rfl (by kernel_rfl) (by kernel_rfl) (by kernel_rfl) (fun _ _ _ h => h) (Or.inl ⟨by rfl, ?y3⟩) hHeld ?r3
  case y3 => (intro W hSw; simp only [List.getElem_toArray, List.getElem_cons_succ, List.getElem_cons_zero]; go_simp; try (with_reducible rfl))
  simp only [List.getElem_toArray, List.getElem_cons_succ, List.getElem_cons_zero, Act.put, List.setIfInBounds_toArray, List.set_cons_zero, List.set_cons_succ]
  refine wpAnyH_take (i := 4) (v := ?v4) rfl (by kernel_rfl) (by kernel_rfl) (by kernel_rfl) (fun _ _ _ h => h) (Or.inl ⟨by rfl, ?y4⟩) hHeld ?r4
  case y4 => (intro W hSw; simp only [List.getElem_toArray, List.getElem_cons_succ, List.getElem_cons_zero]; go_simp; try (with_reducible rfl))
  simp only [List.getElem_toArray, List.getElem_cons_succ, List.getElem_cons_zero, Act.put, List.setIfInBounds_toArray, List.set_cons_zero, List.set_cons_succ]
  refine wpAnyH_take (i := 5) (v := ?v5) rfl (by kernel_rfl) (by kernel_rfl) (by kernel_rfl) (fun _ _ _ h => h) (Or.inl ⟨by rfl, ?y5⟩) hHeld ?r5
  case y5 => (intro W hSw; simp only [List.getElem_toArray, List.getElem_cons_succ, List.getElem_cons_zero]; go_simp; try (with_reducible rfl))
  simp only [List.getElem_toArray, List.getElem_cons_succ, List.getElem_cons_zero, Act.put, List.setIfInBounds_toArray, List.set_cons_zero, List.set_cons_succ]
  refine wpAnyH_take (i := 6) (v := ?v6) rfl (by kernel_rfl) (by kernel_rfl) (by kernel_rfl) (fun _ _ _ h => h) (Or.inl ⟨by rfl, ?y6⟩) hHeld ?r6
  case y6 => (intro W hSw; simp only [List.getElem_toArray, List.getElem_cons_succ, List.getElem_cons_zero]; go_simp; try (with_reducible rfl))
  simp only [List.getElem_toArray, List.getElem_cons_succ, List.getElem_cons_zero, Act.put, List.setIfInBounds_toArray, List.set_cons_zero, List.set_cons_succ]
  refine wpAnyH_take (i := 7) (v := ?v7) rfl (by kernel_rfl) (by kernel_rfl) (by kernel_rfl) (fun _ _ _ h => h) (Or.inl ⟨by rfl, ?y7⟩) hHeld ?r7
  case y7 => (intro W hSw; simp only [List.getElem_toArray, List.getElem_cons_succ, List.getElem_cons_zero]; go_simp; try (with_reducible rfl))
  simp only [List.getElem_toArray, List.getElem_cons_succ, List.getElem_cons_zero, Act.put, List.setIfInBounds_toArray, List.set_cons_zero, List.set_cons_succ]
  refine wpAnyH_take (i := 8) (v := ?v8) rfl (by kernel_rfl) (by kernel_rfl) (by kernel_rfl) (fun _ _ _ h => h) (Or.inl ⟨by rfl, ?y8⟩) hHeld ?r8
  case y8 => (intro W hSw; simp only [List.getElem_toArray, List.getElem_cons_succ, List.getElem_cons_zero]; go_simp; try (with_reducible rfl))
  simp only [List.getElem_toArray, List.getElem_cons_succ, List.getElem_cons_zero, Act.put, List.setIfInBounds_toArray, List.set_cons_zero, List.set_cons_succ]
  refine wpAnyH_ready (rs := [9]) (by kernel_rfl) (by simp) (AllReadyH.cons rfl (fun K hK => ?_) AllReadyH.nil)
  simp only [List.getElem_toArray, List.getElem_cons_succ, List.getElem_cons_zero]
  go_simp
  go_at_call 109; refine (by_highX_any ⟨ax1, ay1, ax2, ay2⟩ ⟨bx1, by1, bx2, by2⟩ _).mono ?_; rintro e w9 ⟨m9, rfl, hb1⟩
  try go_wp2_with fail
  refine hK.out _ _ (by exact HS.out _ (hHeld.2.2.2.2.2.2.2.2.2.2.trans (hb1.mono hHeld.2.2.2.2.2.2.2.2.2.2.size))) (fun hHeld1 => ?_)
  clear hK K hHeld
  have hHeld := hHeld1; clear hHeld1
  try simp only [List.getElem_toArray, List.getElem_cons_succ, List.getElem_cons_zero, Act.put, List.setIfInBounds_toArray, List.set_cons_zero, List.set_cons_succ]
  refine wpAnyH_take (i := 10) (v := ?v10) rfl (by kernel_rfl) (by kernel_rfl) (by kernel_rfl) (fun _ _ _ h => h) (Or.inl ⟨by rfl, ?y10⟩) hHeld ?r10
  case y10 => (intro W hSw; simp only [List.getElem_toArray, List.getElem_cons_succ, List.getElem_cons_zero]; go_simp; try (with_reducible rfl))
  simp only [List.getElem_toArray, List.getElem_cons_succ, List.getElem_cons_zero, Act.put, List.setIfInBounds_toArray, List.set_cons_zero, List.set_cons_succ]
  refine wpAnyH_done (by kernel_rfl) ?_ _
  have HZ := Lib.hid hHeld.2.2.2.2.2.2.2.2.2.2
  clear hHeld
  go_wp2_with fail
  go_ret
  exact ⟨m9, rfl, HZ.out⟩
theorem at_lowY (g2 g3 : Nat) (a : Option Addr) (c : Nat) (l : List R4) (x y : Nat) (w : World) (h2 : w.cell? ⟨g2, 0, none⟩ = some (.func (.func 109) #[.func (.func 87) #[] #[]] #[])) (h3 : w.cell? ⟨g3, 0, none⟩ = some (.slice a l.length c)) (hl : RsAt w w.heap.size a l) (hx : x < l.length) (hy : y < l.length) :
    Calls Tryz.prog 116 #[.int .i64 (x : Int), .int .i64 (y : Int), .pointer (some ⟨g2, 0, none⟩), .pointer (some ⟨g3, 0, none⟩)] w fun e w' => ∃ m : Int, e = .returned (.int .i64 m) ∧ Below w.heap.size w w' := by
  obtain ⟨g, o, rfl, hg, ⟨ax1, ay1, ax2, ay2⟩, hra, -, c0, c1, c2, c3⟩ := hl.at hx
  obtain ⟨g', o', e, hg', ⟨bx1, by1, bx2, by2⟩, hrb, -, d0, d1, d2, d3⟩ := hl.at hy
  cases e
  have h100 := hl.1
  obtain ⟨n, hn⟩ : ∃ n, n = l.length := ⟨_, rfl⟩
  rw [← hn] at h3 hx hy h100
  clear hl hn hra hrb hg'
  dsimp only at c0 c1 c2 c3 d0 d1 d2 d3
  have l2 : g2 < w.heap.size := World.block_lt_of_cell? w ⟨g2, 0, none⟩ h2
  have l3 : g3 < w.heap.size := World.block_lt_of_cell? w ⟨g3, 0, none⟩ h3
  have HS : Hid (∀ W, Below w.heap.size w W → W.cell? ⟨g2, 0, none⟩ = some (.func (.func 109) #[.func (.func 87) #[] #[]] #[]) ∧ W.cell? ⟨g3, 0, none⟩ = some (.slice (some ⟨g, o, none⟩) n c) ∧ W.cell? ⟨g, o + x * 4, none⟩ = some (.int .i64 ax1) ∧ W.cell? ⟨g, o + x * 4 + 1, none⟩ = some (.int .i64 ay1) ∧ W.cell? ⟨g, o + x * 4 + 2, none⟩ = some (.int .i64 ax2) ∧ W.cell? ⟨g, o + x * 4 + 3, none⟩ = some (.int .i64 ay2) ∧ W.cell? ⟨g, o + y * 4, none⟩ = some (.int .i64 bx1) ∧ W.cell? ⟨g, o + y * 4 + 1, none⟩ = some (.int .i64 by1) ∧ W.cell? ⟨g, o + y * 4 + 2, none⟩ = some (.int .i64 bx2) ∧ W.cell? ⟨g, o + y * 4 + 3, none⟩ = some (.int .i64 by2) ∧ Below w.heap.size w W) := Lib.hid fun W hB => ⟨cellB hB l2 h2, cellB hB l3 h3, cellB hB hg c0, cellB hB hg c1, cellB hB hg c2, cellB hB hg c3, cellB hB hg d0, cellB hB hg d1, cellB hB hg d2, cellB hB hg d3, hB⟩
  clear h2 h3 c0 c1 c2 c3 d0 d1 d2 d3
  go_enter Tryz.func116, Tryz.ntmps116
  go_wp2_with fail
  refine wp_region_held_drew (S := (fun W => W.cell? ⟨g2, 0, none⟩ = some (.func (.func 109) #[.func (.func 87) #[] #[]] #[]) ∧ W.cell? ⟨g3, 0, none⟩ = some (.slice (some ⟨g, o, none⟩) n c) ∧ W.cell? ⟨g, o + x * 4, none⟩ = some (.int .i64 ax1) ∧ W.cell? ⟨g, o + x * 4 + 1, none⟩ = some (.int .i64 ay1) ∧ W.cell? ⟨g, o + x * 4 + 2, none⟩ = some (.int .i64 ax2) ∧ W.cell? ⟨g, o + x * 4 + 3, none⟩ = some (.int .i64 ay2) ∧ W.cell? ⟨g, o + y * 4, none⟩ = some (.int .i64 bx1) ∧ W.cell? ⟨g, o + y * 4 + 1, none⟩ = some (.int .i64 by1) ∧ W.cell? ⟨g, o + y * 4 + 2, none⟩ = some (.int .i64 bx2) ∧ W.cell? ⟨g, o + y * 4 + 3, none⟩ = some (.int .i64 by2) ∧ Below w.heap.size w W)) (by kernel_rfl) (HS.out _ (Below.drew (Below.refl _ _))) (fun hHeld => ?_)
  refine wpAnyH_take (i := 0) (v := ?v0) rfl (by kernel_rfl) (by kernel_rfl) (by kernel_rfl) (fun _ _ _ h => h) (Or.inl ⟨by rfl, ?y0⟩) hHeld ?r0
  case y0 => (intro W hSw; simp only [List.getElem_toArray, List.getElem_cons_zero]; go_simp; try (with_reducible rfl))
  simp only [List.getElem_toArray, List.getElem_cons_zero, Act.put, List.setIfInBounds_toArray, List.set_cons_zero, List.set_cons_succ]
  refine wpAnyH_take (i := 1) (v := ?v1) rfl (by kernel_rfl) (by kernel_rfl) (by kernel_rfl) (fun _ _ _ h => h) (Or.inl ⟨by rfl, ?y1⟩) hHeld ?r1
  case y1 => (intro W hSw; simp only [List.getElem_toArray, List.getElem_cons_succ, List.getElem_cons_zero]; go_simp; try (with_reducible rfl))
  simp only [List.getElem_toArray, List.getElem_cons_succ, List.getElem_cons_zero, Act.put, List.setIfInBounds_toArray, List.set_cons_zero, List.set_cons_succ]
  refine wpAnyH_take (i := 2) (v := ?v2) rfl (by kernel_rfl) (by kernel_rfl) (by kernel_rfl) (fun _ _ _ h => h) (Or.inl ⟨by rfl, ?y2⟩) hHeld ?r2
  case y2 => (intro W hSw; simp only [List.getElem_toArray, List.getElem_cons_succ, List.getElem_cons_zero]; go_simp; try (with_reducible rfl))
  simp only [List.getElem_toArray, List.getElem_cons_succ, List.getElem_cons_zero, Act.put, List.setIfInBounds_toArray, List.set_cons_zero, List.set_cons_succ]
  refine wpAnyH_take (i := 3) (v := ?v3) rfl (by kernel_rfl) (by kernel_rfl) (by kernel_rfl) (fun _ _ _ h => h) (Or.inl ⟨by rfl, ?y3⟩) hHeld ?r3
  case y3 => (intro W hSw; simp only [List.getElem_toArray, List.getElem_cons_succ, List.getElem_cons_zero]; go_simp; try (with_reducible rfl))
  simp only [List.getElem_toArray, List.getElem_cons_succ, List.getElem_cons_zero, Act.put, List.setIfInBounds_toArray, List.set_cons_zero, List.set_cons_succ]
  refine wpAnyH_take (i := 4) (v := ?v4) rfl (by kernel_rfl) (by kernel_rfl) (by kernel_rfl) (fun _ _ _ h => h) (Or.inl ⟨by rfl, ?y4⟩) hHeld ?r4
  case y4 => (intro W hSw; simp only [List.getElem_toArray, List.getElem_cons_succ, List.getElem_cons_zero]; go_simp; try (with_reducible rfl))
  simp only [List.getElem_toArray, List.getElem_cons_succ, List.getElem_cons_zero, Act.put, List.setIfInBounds_toArray, List.set_cons_zero, List.set_cons_succ]
  refine wpAnyH_take (i := 5) (v := ?v5) rfl (by kernel_rfl) (by kernel_rfl) (by kernel_rfl) (fun _ _ _ h => h) (Or.inl ⟨by rfl, ?y5⟩) hHeld ?r5
  case y5 => (intro W hSw; simp only [List.getElem_toArray, List.getElem_cons_succ, List.getElem_cons_zero]; go_simp; try (with_reducible rfl))
  simp only [List.getElem_toArray, List.getElem_cons_succ, List.getElem_cons_zero, Act.put, List.setIfInBounds_toArray, List.set_cons_zero, List.set_cons_succ]
  refine wpAnyH_take (i := 6) (v := ?v6) rfl (by kernel_rfl) (by kernel_rfl) (by kernel_rfl) (fun _ _ _ h => h) (Or.inl ⟨by rfl, ?y6⟩) hHeld ?r6
  case y6 => (intro W hSw; simp only [List.getElem_toArray, List.getElem_cons_succ, List.getElem_cons_zero]; go_simp; try (with_reducible rfl))
  simp only [List.getElem_toArray, List.getElem_cons_succ, List.getElem_cons_zero, Act.put, List.setIfInBounds_toArray, List.set_cons_zero, List.set_cons_succ]
  refine wpAnyH_take (i := 7) (v := ?v7) rfl (by kernel_rfl) (by kernel_rfl) (by kernel_rfl) (fun _ _ _ h => h) (Or.inl ⟨by rfl, ?y7⟩) hHeld ?r7
  case y7 => (intro W hSw; simp only [List.getElem_toArray, List.getElem_cons_succ, List.getElem_cons_zero]; go_simp; try (with_reducible rfl))
  simp only [List.getElem_toArray, List.getElem_cons_succ, List.getElem_cons_zero, Act.put, List.setIfInBounds_toArray, List.set_cons_zero, List.set_cons_succ]
  refine wpAnyH_take (i := 8) (v := ?v8) rfl (by kernel_rfl) (by kernel_rfl) (by kernel_rfl) (fun _ _ _ h => h) (Or.inl ⟨by rfl, ?y8⟩) hHeld ?r8
  case y8 => (intro W hSw; simp only [List.getElem_toArray, List.getElem_cons_succ, List.getElem_cons_zero]; go_simp; try (with_reducible rfl))
  simp only [List.getElem_toArray, List.getElem_cons_succ, List.getElem_cons_zero, Act.put, List.setIfInBounds_toArray, List.set_cons_zero, List.set_cons_succ]
  refine wpAnyH_ready (rs := [9]) (by kernel_rfl) (by simp) (AllReadyH.cons rfl (fun K hK => ?_) AllReadyH.nil)
  simp only [List.getElem_toArray, List.getElem_cons_succ, List.getElem_cons_zero]
  go_simp
  go_at_call 109; refine (by_lowY_any ⟨ax1, ay1, ax2, ay2⟩ ⟨bx1, by1, bx2, by2⟩ _).mono ?_; rintro e w9 ⟨m9, rfl, hb1⟩
  try go_wp2_with fail
  refine hK.out _ _ (by exact HS.out _ (hHeld.2.2.2.2.2.2.2.2.2.2.trans (hb1.mono hHeld.2.2.2.2.2.2.2.2.2.2.size))) (fun hHeld1 => ?_)
  clear hK K hHeld
  have hHeld := hHeld1; clear hHeld1
  try simp only [List.getElem_toArray, List.getElem_cons_succ, List.getElem_cons_zero, Act.put, List.setIfInBounds_toArray, List.set_cons_zero, List.set_cons_succ]
  refine wpAnyH_take (i := 10) (v := ?v10) rfl (by kernel_rfl) (by kernel_rfl) (by kernel_rfl) (fun _ _ _ h => h) (Or.inl ⟨by rfl, ?y10⟩) hHeld ?r10
  case y10 => (intro W hSw; simp only [List.getElem_toArray, List.getElem_cons_succ, List.getElem_cons_zero]; go_simp; try (with_reducible rfl))
  simp only [List.getElem_toArray, List.getElem_cons_succ, List.getElem_cons_zero, Act.put, List.setIfInBounds_toArray, List.set_cons_zero, List.set_cons_succ]
  refine wpAnyH_done (by kernel_rfl) ?_ _
  have HZ := Lib.hid hHeld.2.2.2.2.2.2.2.2.2.2
  clear hHeld
  go_wp2_with fail
  go_ret
  exact ⟨m9, rfl, HZ.out⟩
theorem at_highY (g2 g3 : Nat) (a : Option Addr) (c : Nat) (l : List R4) (x y : Nat) (w : World) (h2 : w.cell? ⟨g2, 0, none⟩ = some (.func (.func 109) #[.func (.func 88) #[] #[]] #[])) (h3 : w.cell? ⟨g3, 0, none⟩ = some (.slice a l.length c)) (hl : RsAt w w.heap.size a l) (hx : x < l.length) (hy : y < l.length) :
    Calls Tryz.prog 116 #[.int .i64 (x : Int), .int .i64 (y : Int), .pointer (some ⟨g2, 0, none⟩), .pointer (some ⟨g3, 0, none⟩)] w fun e w' => ∃ m : Int, e = .returned (.int .i64 m) ∧ Below w.heap.size w w' := by
  obtain ⟨g, o, rfl, hg, ⟨ax1, ay1, ax2, ay2⟩, hra, -, c0, c1, c2, c3⟩ := hl.at hx
  obtain ⟨g', o', e, hg', ⟨bx1, by1, bx2, by2⟩, hrb, -, d0, d1, d2, d3⟩ := hl.at hy
  cases e
  have h100 := hl.1
  obtain ⟨n, hn⟩ : ∃ n, n = l.length := ⟨_, rfl⟩
  rw [← hn] at h3 hx hy h100
  clear hl hn hra hrb hg'
  dsimp only at c0 c1 c2 c3 d0 d1 d2 d3
  have l2 : g2 < w.heap.size := World.block_lt_of_cell? w ⟨g2, 0, none⟩ h2
  have l3 : g3 < w.heap.size := World.block_lt_of_cell? w ⟨g3, 0, none⟩ h3
  have HS : Hid (∀ W, Below w.heap.size w W → W.cell? ⟨g2, 0, none⟩ = some (.func (.func 109) #[.func (.func 88) #[] #[]] #[]) ∧ W.cell? ⟨g3, 0, none⟩ = some (.slice (some ⟨g, o, none⟩) n c) ∧ W.cell? ⟨g, o + x * 4, none⟩ = some (.int .i64 ax1) ∧ W.cell? ⟨g, o + x * 4 + 1, none⟩ = some (.int .i64 ay1) ∧ W.cell? ⟨g, o + x * 4 + 2, none⟩ = some (.int .i64 ax2) ∧ W.cell? ⟨g, o + x * 4 + 3, none⟩ = some (.int .i64 ay2) ∧ W.cell? ⟨g, o + y * 4, none⟩ = some (.int .i64 bx1) ∧ W.cell? ⟨g, o + y * 4 + 1, none⟩ = some (.int .i64 by1) ∧ W.cell? ⟨g, o + y * 4 + 2, none⟩ = some (.int .i64 bx2) ∧ W.cell? ⟨g, o + y * 4 + 3, none⟩ = some (.int .i64 by2) ∧ Below w.heap.size w W) := Lib.hid fun W hB => ⟨cellB hB l2 h2, cellB hB l3 h3, cellB hB hg c0, cellB hB hg c1, cellB hB hg c2, cellB hB hg c3, cellB hB hg d0, cellB hB hg d1, cellB hB hg d2, cellB hB hg d3, hB⟩
  clear h2 h3 c0 c1 c2 c3 d0 d1 d2 d3
  go_enter Tryz.func116, Tryz.ntmps116
  go_wp2_with fail
  refine wp_region_held_drew (S := (fun W => W.cell? ⟨g2, 0, none⟩ = some (.func (.func 109) #[.func (.func 88) #[] #[]] #[]) ∧ W.cell? ⟨g3, 0, none⟩ = some (.slice (some ⟨g, o, none⟩) n c) ∧ W.cell? ⟨g, o + x * 4, none⟩ = some (.int .i64 ax1) ∧ W.cell? ⟨g, o + x * 4 + 1, none⟩ = some (.int .i64 ay1) ∧ W.cell? ⟨g, o + x * 4 + 2, none⟩ = some (.int .i64 ax2) ∧ W.cell? ⟨g, o + x * 4 + 3, none⟩ = some (.int .i64 ay2) ∧ W.cell? ⟨g, o + y * 4, none⟩ = some (.int .i64 bx1) ∧ W.cell? ⟨g, o + y * 4 + 1, none⟩ = some (.int .i64 by1) ∧ W.cell? ⟨g, o + y * 4 + 2, none⟩ = some (.int .i64 bx2) ∧ W.cell? ⟨g, o + y * 4 + 3, none⟩ = some (.int .i64 by2) ∧ Below w.heap.size w W)) (by kernel_rfl) (HS.out _ (Below.drew (Below.refl _ _))) (fun hHeld => ?_)
  refine wpAnyH_take (i := 0) (v := ?v0) rfl (by kernel_rfl) (by kernel_rfl) (by kernel_rfl) (fun _ _ _ h => h) (Or.inl ⟨by rfl, ?y0⟩) hHeld ?r0
  case y0 => (intro W hSw; simp only [List.getElem_toArray, List.getElem_cons_zero]; go_simp; try (with_reducible rfl))
  simp only [List.getElem_toArray, List.getElem_cons_zero, Act.put, List.setIfInBounds_toArray, List.set_cons_zero, List.set_cons_succ]
  refine wpAnyH_take (i := 1) (v := ?v1) rfl (by kernel_rfl) (by kernel_rfl) (by kernel_rfl) (fun _ _ _ h => h) (Or.inl ⟨by rfl, ?y1⟩) hHeld ?r1
  case y1 => (intro W hSw; simp only [List.getElem_toArray, List.getElem_cons_succ, List.getElem_cons_zero]; go_simp; try (with_reducible rfl))
  simp only [List.getElem_toArray, List.getElem_cons_succ, List.getElem_cons_zero, Act.put, List.setIfInBounds_toArray, List.set_cons_zero, List.set_cons_succ]
  refine wpAnyH_take (i := 2) (v := ?v2) rfl (by kernel_rfl) (by kernel_rfl) (by kernel_rfl) (fun _ _ _ h => h) (Or.inl ⟨by rfl, ?y2⟩) hHeld ?r2
  case y2 => (intro W hSw; simp only [List.getElem_toArray, List.getElem_cons_succ, List.getElem_cons_zero]; go_simp; try (with_reducible rfl))
  simp only [List.getElem_toArray, List.getElem_cons_succ, List.getElem_cons_zero, Act.put, List.setIfInBounds_toArray, List.set_cons_zero, List.set_cons_succ]
  refine wpAnyH_take (i := 3) (v := ?v3) rfl (by kernel_rfl) (by kernel_rfl) (by kernel_rfl) (fun _ _ _ h => h) (Or.inl ⟨by rfl, ?y3⟩) hHeld ?r3
  case y3 => (intro W hSw; simp only [List.getElem_toArray, List.getElem_cons_succ, List.getElem_cons_zero]; go_simp; try (with_reducible rfl))
  simp only [List.getElem_toArray, List.getElem_cons_succ, List.getElem_cons_zero, Act.put, List.setIfInBounds_toArray, List.set_cons_zero, List.set_cons_succ]
  refine wpAnyH_take (i := 4) (v := ?v4) rfl (by kernel_rfl) (by kernel_rfl) (by kernel_rfl) (fun _ _ _ h => h) (Or.inl ⟨by rfl, ?y4⟩) hHeld ?r4
  case y4 => (intro W hSw; simp only [List.getElem_toArray, List.getElem_cons_succ, List.getElem_cons_zero]; go_simp; try (with_reducible rfl))
  simp only [List.getElem_toArray, List.getElem_cons_succ, List.getElem_cons_zero, Act.put, List.setIfInBounds_toArray, List.set_cons_zero, List.set_cons_succ]
  refine wpAnyH_take (i := 5) (v := ?v5) rfl (by kernel_rfl) (by kernel_rfl) (by kernel_rfl) (fun _ _ _ h => h) (Or.inl ⟨by rfl, ?y5⟩) hHeld ?r5
  case y5 => (intro W hSw; simp only [List.getElem_toArray, List.getElem_cons_succ, List.getElem_cons_zero]; go_simp; try (with_reducible rfl))
  simp only [List.getElem_toArray, List.getElem_cons_succ, List.getElem_cons_zero, Act.put, List.setIfInBounds_toArray, List.set_cons_zero, List.set_cons_succ]
  refine wpAnyH_take (i := 6) (v := ?v6) rfl (by kernel_rfl) (by kernel_rfl) (by kernel_rfl) (fun _ _ _ h => h) (Or.inl ⟨by rfl, ?y6⟩) hHeld ?r6
  case y6 => (intro W hSw; simp only [List.getElem_toArray, List.getElem_cons_succ, List.getElem_cons_zero]; go_simp; try (with_reducible rfl))
  simp only [List.getElem_toArray, List.getElem_cons_succ, List.getElem_cons_zero, Act.put, List.setIfInBounds_toArray, List.set_cons_zero, List.set_cons_succ]
  refine wpAnyH_take (i := 7) (v := ?v7) rfl (by kernel_rfl) (by kernel_rfl) (by kernel_rfl) (fun _ _ _ h => h) (Or.inl ⟨by rfl, ?y7⟩) hHeld ?r7
  case y7 => (intro W hSw; simp only [List.getElem_toArray, List.getElem_cons_succ, List.getElem_cons_zero]; go_simp; try (with_reducible rfl))
  simp only [List.getElem_toArray, List.getElem_cons_succ, List.getElem_cons_zero, Act.put, List.setIfInBounds_toArray, List.set_cons_zero, List.set_cons_succ]
  refine wpAnyH_take (i := 8) (v := ?v8) rfl (by kernel_rfl) (by kernel_rfl) (by kernel_rfl) (fun _ _ _ h => h) (Or.inl ⟨by rfl, ?y8⟩) hHeld ?r8
  case y8 => (intro W hSw; simp only [List.getElem_toArray, List.getElem_cons_succ, List.getElem_cons_zero]; go_simp; try (with_reducible rfl))
  simp only [List.getElem_toArray, List.getElem_cons_succ, List.getElem_cons_zero, Act.put, List.setIfInBounds_toArray, List.set_cons_zero, List.set_cons_succ]
  refine wpAnyH_ready (rs := [9]) (by kernel_rfl) (by simp) (AllReadyH.cons rfl (fun K hK => ?_) AllReadyH.nil)
  simp only [List.getElem_toArray, List.getElem_cons_succ, List.getElem_cons_zero]
  go_simp
  go_at_call 109; refine (by_highY_any ⟨ax1, ay1, ax2, ay2⟩ ⟨bx1, by1, bx2, by2⟩ _).mono ?_; rintro e w9 ⟨m9, rfl, hb1⟩
  try go_wp2_with fail
  refine hK.out _ _ (by exact HS.out _ (hHeld.2.2.2.2.2.2.2.2.2.2.trans (hb1.mono hHeld.2.2.2.2.2.2.2.2.2.2.size))) (fun hHeld1 => ?_)
  clear hK K hHeld
  have hHeld := hHeld1; clear hHeld1
  try simp only [List.getElem_toArray, List.getElem_cons_succ, List.getElem_cons_zero, Act.put, List.setIfInBounds_toArray, List.set_cons_zero, List.set_cons_succ]
  refine wpAnyH_take (i := 10) (v := ?v10) rfl (by kernel_rfl) (by kernel_rfl) (by kernel_rfl) (fun _ _ _ h => h) (Or.inl ⟨by rfl, ?y10⟩) hHeld ?r10
  case y10 => (intro W hSw; simp only [List.getElem_toArray, List.getElem_cons_succ, List.getElem_cons_zero]; go_simp; try (with_reducible rfl))
  simp only [List.getElem_toArray, List.getElem_cons_succ, List.getElem_cons_zero, Act.put, List.setIfInBounds_toArray, List.set_cons_zero, List.set_cons_succ]
  refine wpAnyH_done (by kernel_rfl) ?_ _
  have HZ := Lib.hid hHeld.2.2.2.2.2.2.2.2.2.2
  clear hHeld
  go_wp2_with fail
  go_ret
  exact ⟨m9, rfl, HZ.out⟩
theorem at_far (g2 g3 : Nat) (h : Nat) (a : Option Addr) (c : Nat) (l : List R4) (x y : Nat) (w : World) (h2 : w.cell? ⟨g2, 0, none⟩ = some (.func (.func 95) #[] #[.pointer (some ⟨h, 0, none⟩)])) (h3 : w.cell? ⟨g3, 0, none⟩ = some (.slice a l.length c)) (hl : RsAt w w.heap.size a l) (hx : x < l.length) (hy : y < l.length) (hh : Rk w h) :
    Calls Tryz.prog 116 #[.int .i64 (x : Int), .int .i64 (y : Int), .pointer (some ⟨g2, 0, none⟩), .pointer (some ⟨g3, 0, none⟩)] w fun e w' => ∃ m : Int, e = .returned (.int .i64 m) ∧ Below w.heap.size w w' := by
  obtain ⟨g, o, rfl, hg, ⟨ax1, ay1, ax2, ay2⟩, hra, -, c0, c1, c2, c3⟩ := hl.at hx
  obtain ⟨g', o', e, hg', ⟨bx1, by1, bx2, by2⟩, hrb, -, d0, d1, d2, d3⟩ := hl.at hy
  cases e
  have h100 := hl.1
  obtain ⟨n, hn⟩ : ∃ n, n = l.length := ⟨_, rfl⟩
  rw [← hn] at h3 hx hy h100
  clear hl hn hra hrb hg'
  dsimp only at c0 c1 c2 c3 d0 d1 d2 d3
  have l2 : g2 < w.heap.size := World.block_lt_of_cell? w ⟨g2, 0, none⟩ h2
  have l3 : g3 < w.heap.size := World.block_lt_of_cell? w ⟨g3, 0, none⟩ h3
  have HS : Hid (∀ W, Below w.heap.size w W → W.cell? ⟨g2, 0, none⟩ = some (.func (.func 95) #[] #[.pointer (some ⟨h, 0, none⟩)]) ∧ W.cell? ⟨g3, 0, none⟩ = some (.slice (some ⟨g, o, none⟩) n c) ∧ W.cell? ⟨g, o + x * 4, none⟩ = some (.int .i64 ax1) ∧ W.cell? ⟨g, o + x * 4 + 1, none⟩ = some (.int .i64 ay1) ∧ W.cell? ⟨g, o + x * 4 + 2, none⟩ = some (.int .i64 ax2) ∧ W.cell? ⟨g, o + x * 4 + 3, none⟩ = some (.int .i64 ay2) ∧ W.cell? ⟨g, o + y * 4, none⟩ = some (.int .i64 bx1) ∧ W.cell? ⟨g, o + y * 4 + 1, none⟩ = some (.int .i64 by1) ∧ W.cell? ⟨g, o + y * 4 + 2, none⟩ = some (.int .i64 bx2) ∧ W.cell? ⟨g, o + y * 4 + 3, none⟩ = some (.int .i64 by2) ∧ Rk W h ∧ Below w.heap.size w W) := Lib.hid fun W hB => ⟨cellB hB l2 h2, cellB hB l3 h3, cellB hB hg c0, cellB hB hg c1, cellB hB hg c2, cellB hB hg c3, cellB hB hg d0, cellB hB hg d1, cellB hB hg d2, cellB hB hg d3, hh.below hB, hB⟩
  clear h2 h3 c0 c1 c2 c3 d0 d1 d2 d3
  go_enter Tryz.func116, Tryz.ntmps116
  go_wp2_with fail
  refine wp_region_held_drew (S := (fun W => W.cell? ⟨g2, 0, none⟩ = some (.func (.func 95) #[] #[.pointer (some ⟨h, 0, none⟩)]) ∧ W.cell? ⟨g3, 0, none⟩ = some (.slice (some ⟨g, o, none⟩) n c) ∧ W.cell? ⟨g, o + x * 4, none⟩ = some (.int .i64 ax1) ∧ W.cell? ⟨g, o + x * 4 + 1, none⟩ = some (.int .i64 ay1) ∧ W.cell? ⟨g, o + x * 4 + 2, none⟩ = some (.int .i64 ax2) ∧ W.cell? ⟨g, o + x * 4 + 3, none⟩ = some (.int .i64 ay2) ∧ W.cell? ⟨g, o + y * 4, none⟩ = some (.int .i64 bx1) ∧ W.cell? ⟨g, o + y * 4 + 1, none⟩ = some (.int .i64 by1) ∧ W.cell? ⟨g, o + y * 4 + 2, none⟩ = some (.int .i64 bx2) ∧ W.cell? ⟨g, o + y * 4 + 3, none⟩ = some (.int .i64 by2) ∧ Rk W h ∧ Below w.heap.size w W)) (by kernel_rfl) (HS.out _ (Below.drew (Below.refl _ _))) (fun hHeld => ?_)
  refine wpAnyH_take (i := 0) (v := ?v0) rfl (by kernel_rfl) (by kernel_rfl) (by kernel_rfl) (fun _ _ _ h => h) (Or.inl ⟨by rfl, ?y0⟩) hHeld ?r0
  case y0 => (intro W hSw; simp only [List.getElem_toArray, List.getElem_cons_zero]; go_simp; try (with_reducible rfl))
  simp only [List.getElem_toArray, List.getElem_cons_zero, Act.put, List.setIfInBounds_toArray, List.set_cons_zero, List.set_cons_succ]
  refine wpAnyH_take (i := 1) (v := ?v1) rfl (by kernel_rfl) (by kernel_rfl) (by kernel_rfl) (fun _ _ _ h => h) (Or.inl ⟨by rfl, ?y1⟩) hHeld ?r1
  case y1 => (intro W hSw; simp only [List.getElem_toArray, List.getElem_cons_succ, List.getElem_cons_zero]; go_simp; try (with_reducible rfl))
  simp only [List.getElem_toArray, List.getElem_cons_succ, List.getElem_cons_zero, Act.put, List.setIfInBounds_toArray, List.set_cons_zero, List.set_cons_succ]
  refine wpAnyH_take (i := 2) (v := ?v2) rfl (by kernel_rfl) (by kernel_rfl) (by kernel_rfl) (fun _ _ _ h => h) (Or.inl ⟨by rfl, ?y2⟩) hHeld ?r2
  case y2 => (intro W hSw; simp only [List.getElem_toArray, List.getElem_cons_succ, List.getElem_cons_zero]; go_simp; try (with_reducible rfl))
  simp only [List.getElem_toArray, List.getElem_cons_succ, List.getElem_cons_zero, Act.put, List.setIfInBounds_toArray, List.set_cons_zero, List.set_cons_succ]
  refine wpAnyH_take (i := 3) (v := ?v3) rfl (by kernel_rfl) (by kernel_rfl) (by kernel_rfl) (fun _ _ _ h => h) (Or.inl ⟨by rfl, ?y3⟩) hHeld ?r3
  case y3 => (intro W hSw; simp only [List.getElem_toArray, List.getElem_cons_succ, List.getElem_cons_zero]; go_simp; try (with_reducible rfl))
  simp only [List.getElem_toArray, List.getElem_cons_succ, List.getElem_cons_zero, Act.put, List.setIfInBounds_toArray, List.set_cons_zero, List.set_cons_succ]
  refine wpAnyH_take (i := 4) (v := ?v4) rfl (by kernel_rfl) (by kernel_rfl) (by kernel_rfl) (fun _ _ _ h => h) (Or.inl ⟨by rfl, ?y4⟩) hHeld ?r4
  case y4 => (intro W hSw; simp only [List.getElem_toArray, List.getElem_cons_succ, List.getElem_cons_zero]; go_simp; try (with_reducible rfl))
  simp only [List.getElem_toArray, List.getElem_cons_succ, List.getElem_cons_zero, Act.put, List.setIfInBounds_toArray, List.set_cons_zero, List.set_cons_succ]
  refine wpAnyH_take (i := 5) (v := ?v5) rfl (by kernel_rfl) (by kernel_rfl) (by kernel_rfl) (fun _ _ _ h => h) (Or.inl ⟨by rfl, ?y5⟩) hHeld ?r5
  case y5 => (intro W hSw; simp only [List.getElem_toArray, List.getElem_cons_succ, List.getElem_cons_zero]; go_simp; try (with_reducible rfl))
  simp only [List.getElem_toArray, List.getElem_cons_succ, List.getElem_cons_zero, Act.put, List.setIfInBounds_toArray, List.set_cons_zero, List.set_cons_succ]
  refine wpAnyH_take (i := 6) (v := ?v6) rfl (by kernel_rfl) (by kernel_rfl) (by kernel_rfl) (fun _ _ _ h => h) (Or.inl ⟨by rfl, ?y6⟩) hHeld ?r6
  case y6 => (intro W hSw; simp only [List.getElem_toArray, List.getElem_cons_succ, List.getElem_cons_zero]; go_simp; try (with_reducible rfl))
  simp only [List.getElem_toArray, List.getElem_cons_succ, List.getElem_cons_zero, Act.put, List.setIfInBounds_toArray, List.set_cons_zero, List.set_cons_succ]
  refine wpAnyH_take (i := 7) (v := ?v7) rfl (by kernel_rfl) (by kernel_rfl) (by kernel_rfl) (fun _ _ _ h => h) (Or.inl ⟨by rfl, ?y7⟩) hHeld ?r7
  case y7 => (intro W hSw; simp only [List.getElem_toArray, List.getElem_cons_succ, List.getElem_cons_zero]; go_simp; try (with_reducible rfl))
  simp only [List.getElem_toArray, List.getElem_cons_succ, List.getElem_cons_zero, Act.put, List.setIfInBounds_toArray, List.set_cons_zero, List.set_cons_succ]
  refine wpAnyH_take (i := 8) (v := ?v8) rfl (by kernel_rfl) (by kernel_rfl) (by kernel_rfl) (fun _ _ _ h => h) (Or.inl ⟨by rfl, ?y8⟩) hHeld ?r8
  case y8 => (intro W hSw; simp only [List.getElem_toArray, List.getElem_cons_succ, List.getElem_cons_zero]; go_simp; try (with_reducible rfl))
  simp only [List.getElem_toArray, List.getElem_cons_succ, List.getElem_cons_zero, Act.put, List.setIfInBounds_toArray, List.set_cons_zero, List.set_cons_succ]
  refine wpAnyH_ready (rs := [9]) (by kernel_rfl) (by simp) (AllReadyH.cons rfl (fun K hK => ?_) AllReadyH.nil)
  simp only [List.getElem_toArray, List.getElem_cons_succ, List.getElem_cons_zero]
  go_simp
  go_at_call 95; refine (far_any ⟨ax1, ay1, ax2, ay2⟩ ⟨bx1, by1, bx2, by2⟩ h _ hHeld.2.2.2.2.2.2.2.2.2.2.1).mono ?_; rintro e w9 ⟨m9, rfl, hb1⟩
  try go_wp2_with fail
  refine hK.out _ _ (by exact HS.out _ (hHeld.2.2.2.2.2.2.2.2.2.2.2.trans (hb1.mono hHeld.2.2.2.2.2.2.2.2.2.2.2.size))) (fun hHeld1 => ?_)
  clear hK K hHeld
  have hHeld := hHeld1; clear hHeld1
  try simp only [List.getElem_toArray, List.getElem_cons_succ, List.getElem_cons_zero, Act.put, List.setIfInBounds_toArray, List.set_cons_zero, List.set_cons_succ]
  refine wpAnyH_take (i := 10) (v := ?v10) rfl (by kernel_rfl) (by kernel_rfl) (by kernel_rfl) (fun _ _ _ h => h) (Or.inl ⟨by rfl, ?y10⟩) hHeld ?r10
  case y10 => (intro W hSw; simp only [List.getElem_toArray, List.getElem_cons_succ, List.getElem_cons_zero]; go_simp; try (with_reducible rfl))
  simp only [List.getElem_toArray, List.getElem_cons_succ, List.getElem_cons_zero, Act.put, List.setIfInBounds_toArray, List.set_cons_zero, List.set_cons_succ]
  refine wpAnyH_done (by kernel_rfl) ?_ _
  have HZ := Lib.hid hHeld.2.2.2.2.2.2.2.2.2.2.2
  clear hHeld
  go_wp2_with fail
  go_ret
  exact ⟨m9, rfl, HZ.out⟩
end Go.Proofs.YtobkgamcjfjghaaGreat.Rs
/-
  Contract of package rsplit's places: for fewer than twenty rectangles, a new row of their places, each once. Memory that was there is left as it was.
-/
namespace Go.Proofs.YtobkgamcjfjghaaGreat.Rs
open Go.RowKit Go.Proofs.YtobkgamcjfjghaaGreat.Pt Go.Proofs.YtobkgamcjfjghaaGreat.Rc Go.Proofs.YtobkgamcjfjghaaGreat.Pts Go.Proofs.YtobkgamcjfjghaaGreat.So
set_option linter.unusedVariables false
set_option linter.unusedSimpArgs false
set_option maxHeartbeats 4000000
set_option maxRecDepth 100000
theorem infoI : (Tryz.prog.info? 3).map (fun i => (i.zero, i.size, i.bytes)) = some (some (.int .i64 0), 1, 8) := by kernel_rfl
theorem HI.set {W : World} {blk off : Nat} {d : Array Int} (h : HI W blk off d) (i : Nat) (hi : i < d.size) (x : Int) : HI (W.setCell ⟨blk, off + i, none⟩ (.int .i64 x)) blk off (d.setIfInBounds i x) := by
  intro j hj
  rw [Array.size_setIfInBounds] at hj
  refine ⟨?_, by rw [frozen_set]; exact (h j hj).2⟩
  by_cases e : j = i
  · subst e
    rw [World.cell?_setCell_same _ _ _ (h j hj).1, Sort.getElem!_set_same _ _ _ hj]
  · rw [World.cell?_setCell_other _ _ _ _ (fun e' => e (by have := congrArg Addr.off e'; simp at this; omega)), (h j hj).1]
    have : (d.setIfInBounds i x)[j]! = d[j]! := by
      rw [getElem!_pos _ j (by simpa using hj), getElem!_pos _ j hj, Array.getElem_setIfInBounds, if_neg (fun h => e h.symm)]
    rw [this]
/-- The places, as they stand. -/
def idA (n : Nat) : Array Int := Array.ofFn (n := n) fun k => ((k.val : Nat) : Int)
theorem idA_size (n : Nat) : (idA n).size = n := by simp [idA]
theorem idA_at {n k : Nat} (h : k < n) : (idA n)[k]! = (k : Int) := by
  rw [getElem!_pos _ k (by rw [idA_size]; exact h)]; simp [idA]
theorem idA_pl (n : Nat) : Pl n (idA n) := fun i _ hi => ⟨i, idA_at (by rw [idA_size] at hi; exact hi), by rw [idA_size] at hi; exact hi⟩
theorem HI.same {W : World} {blk off : Nat} {d d' : Array Int} (h : HI W blk off d) (hs : d'.size = d.size) (he : ∀ i, i < d.size → d'[i]! = d[i]!) : HI W blk off d' := fun i hi => by
  rw [hs] at hi
  rw [he i hi]
  exact h i hi
theorem HI.made {W : World} {base e g n cap : Nat} (h : W.ownsRow base e 1 (.slice (some ⟨g, 0, none⟩) n cap) n (madeCells (Value.int .i64 0).cells (n * 1)).toList) : HI W g 0 (Array.replicate n (0 : Int)) := fun j hj => by
  rw [Array.size_replicate] at hj
  refine ⟨?_, h.frozenAt (0 + j)⟩
  rw [Nat.zero_add, h.cellAt j (by omega), getElem!_pos _ j (by simpa using hj), Array.getElem_replicate]
  simp [madeCells, Value.cells, hj, Nat.mod_one]
/-- Between two rounds: the first ones are laid. -/
def FiR (v : World) (g n : Nat) (vi : Value) (wr : World) : Prop := ∃ (k : Nat) (d : Array Int), vi = .int .i64 (k : Int) ∧ k ≤ n ∧ d.size = n ∧ (∀ i, i < k → d[i]! = (i : Int)) ∧ HI wr g 0 d ∧ g < wr.heap.size ∧ Below g v wr
/-- A comparator that tells a number of two places. -/
def PlC (w : World) (a : Option Addr) (n c : Nat) (V : Value) (l : List R4) : Prop := ∀ W, Below w.heap.size w W → W.cell? ⟨w.heap.size + 1, 0, none⟩ = some V → W.cell? ⟨w.heap.size, 0, none⟩ = some (.slice a n c) → ∀ x y : Nat, x < n → y < n → Calls Tryz.prog 116 #[.int .i64 (x : Int), .int .i64 (y : Int), .pointer (some ⟨w.heap.size + 1, 0, none⟩), .pointer (some ⟨w.heap.size, 0, none⟩)] W fun e w' => ∃ m : Int, e = .returned (.int .i64 m) ∧ Below W.heap.size W w'
/-- A new row of places, each once. -/
def PlE (w : World) (n : Nat) (e : Ending) (w' : World) : Prop := ∃ (g : Nat) (d : Array Int), e = .returned (.slice (some ⟨g, 0, none⟩) n n) ∧ w.heap.size ≤ g ∧ g < w'.heap.size ∧ HI w' g 0 d ∧ d.size = n ∧ Sort.PermIn 0 n (idA n) d ∧ Below w.heap.size w w'
theorem places_any (a : Option Addr) (n c : Nat) (fn : FuncId) (pre post : Array Value) (l : List R4) (w : World) (hn : n < 20) (hC : PlC w a n c (.func (.func fn) pre post) l) :
    Calls Tryz.prog 94 #[.slice a n c, .func (.func fn) pre post] w (PlE w n) := by
  have HC := Lib.hid hC
  clear hC
  have HNZ : (n : Int) < 20 := by omega
  obtain ⟨i0, hi, hz0, hz1, hz2⟩ := info_parts infoI
  obtain ⟨v, hv⟩ : ∃ v, v = (w.alloc (.cells #[.slice a n c] 55)).alloc (.cells #[.func (.func fn) pre post] 138) := ⟨_, rfl⟩
  have hvs : (w.alloc (.cells #[.slice a n c] 55)).alloc (.cells #[.func (.func fn) pre post] 138) = v := hv.symm
  have BV := Lib.hid (show Below w.heap.size w v by rw [hv]; exact below2 w _ _)
  have SV := Lib.hid (show v.heap.size = w.heap.size + 2 by rw [hv]; simp)
  have c0 : v.cell? ⟨w.heap.size, 0, none⟩ = some (.slice a n c) := by rw [hv]; simp
  have c1 : v.cell? ⟨w.heap.size + 1, 0, none⟩ = some (.func (.func fn) pre post) := by rw [hv]; simp
  have K0 := Lib.hid c0
  have K1 := Lib.hid c1
  have HV := Lib.hid hvs
  clear hv hvs c0 c1
  go_enter Tryz.func94, Tryz.ntmps94
  go_wp2_with (first | (at_make; refine wpList_make_full _ rfl _ _ 49 rfl (w.heap.size + 2) 3 i0 (.int .i64 0) 1 Tryz.underlying49 hi hz0 hz1 .i64 .i64 _ _ n rfl rfl rfl rfl (by rw [hz2]; omega) (by unfold maxLen; omega) (by simp) ?_; intro w2 hown hgrow))
  rw [HV.out] at hown hgrow
  have R0 := Lib.hid (HI.made hown)
  have B2 := Lib.hid ((Below.refl v.heap.size v).grown hgrow (Nat.le_refl _) (fun k hk => by cases hk))
  have L2 := Lib.hid (hown.lt _ rfl)
  clear hown hgrow hi hz0 hz1 hz2
  obtain ⟨g, hg⟩ : ∃ g, g = v.heap.size := ⟨_, rfl⟩
  have hg2 : w.heap.size + 1 + 1 = g := by rw [hg, SV.out]
  rw [← hg] at R0 L2 B2
  rw [hg2]
  clear hg2
  have G := Lib.hid hg
  clear hg
  go_wp2_with fail
  go_loopw [6, 12] (fun v6 vi wr => FiR v g n vi wr) (fun _ vi _ => n - nOf vi)
  case atStart => exact ⟨0, Array.replicate n 0, rfl, Nat.zero_le _, by simp, fun i h => by omega, R0.out, L2.out.2, B2.out⟩
  case round =>
    clear R0 B2
    obtain ⟨k, d, rfl, hk, hsz, hd, hH, hgr, hB⟩ := hrel
    have HD := Lib.hid hd
    have HH := Lib.hid hH
    have HB := Lib.hid hB
    clear hd hH hB
    by_cases hlt : k < n
    · have hlz : (k : Int) < (n : Int) := by omega
      have cc := (HH.out k (by omega)).1
      have ff := (HH.out k (by omega)).2
      rw [Nat.zero_add] at cc ff
      go_wp2_with fail
      go_roundw
      case rel =>
        have hs := HI.set HH.out k (by omega) (k : Int)
        rw [Nat.zero_add] at hs
        refine ⟨k + 1, d.setIfInBounds k k, by go_num, by omega, by simpa using hsz, fun i hi => ?_, hs, by simpa using hgr, HB.out.setCell (Nat.le_refl _) _⟩
        by_cases e : i = k
        · subst e; exact Sort.getElem!_set_same _ _ _ (by omega)
        · rw [Sort.getElem!_set_other _ _ _ _ e]; exact HD.out i (by omega)
      case measure => simp [nOf]; omega
    · have hlz : ¬ (k : Int) < (n : Int) := by omega
      have hkn : k = n := by omega
      subst hkn
      have hid : HI wr g 0 (idA k) := HI.same HH.out (by rw [idA_size, hsz]) (fun i hi => by rw [idA_at (by omega), HD.out i (by omega)])
      have gv : v.heap.size ≤ g := by rw [G.out]; exact Nat.le_refl _
      have wv : w.heap.size + 2 ≤ g := by rw [G.out, SV.out]; exact Nat.le_refl _
      have BW : Below w.heap.size w wr := BV.out.trans (HB.out.mono (by omega))
      have CS := Lib.hid (sortStable_any g 0 k k (.pointer (some ⟨w.heap.size + 1, 0, none⟩)) (.pointer (some ⟨w.heap.size, 0, none⟩)) (idA k) wr hid (idA_pl k) (by rw [idA_size]; exact hn) (fun W hg x y hx hy => HC.out W (BW.grown hg BW.size (fun q hq => by cases hq; omega)) (by
          rw [← K1.out]
          exact ((HB.out.grown hg (by rw [G.out]; exact HB.out.size) (fun q hq => by cases hq; exact Nat.le_refl _)).cell (p := ⟨w.heap.size + 1, 0, none⟩) (show w.heap.size + 1 < g by omega))) (by
          rw [← K0.out]
          exact ((HB.out.grown hg (by rw [G.out]; exact HB.out.size) (fun q hq => by cases hq; exact Nat.le_refl _)).cell (p := ⟨w.heap.size, 0, none⟩) (show w.heap.size < g by omega))) x y hx hy))
      rw [idA_size] at CS
      have BH := Lib.hid BW
      have WV := Lib.hid wv
      clear hid BW HD HH wv
      go_wp2_with fail
      refine Calls.mono CS.out ?_
      rintro e w3 ⟨rfl, d', hp, hs⟩
      rw [idA_size] at hp
      have HF := Lib.hid (And.intro hp hs)
      clear hp hs CS
      go_wp2_with fail
      go_ret
      have WVo := WV.out
      exact ⟨g, d', rfl, by omega, Nat.lt_of_lt_of_le hgr HF.out.2.2.size, HF.out.2.1, by rw [HF.out.1.1, idA_size], HF.out.1, BH.out.grown HF.out.2.2 BH.out.size (fun q hq => by cases hq; omega)⟩
end Go.Proofs.YtobkgamcjfjghaaGreat.Rs
namespace Go.Proofs.YtobkgamcjfjghaaGreat.Rs
open Go.RowKit Go.Proofs.YtobkgamcjfjghaaGreat.Pt Go.Proofs.YtobkgamcjfjghaaGreat.Rc Go.Proofs.YtobkgamcjfjghaaGreat.Pts Go.Proofs.YtobkgamcjfjghaaGreat.So
set_option linter.unusedVariables false
set_option linter.unusedSimpArgs false
set_option maxHeartbeats 4000000
set_option maxRecDepth 100000
def FarE (w : World) (n m : Nat) (e : Ending) (w' : World) : Prop := ∃ (g : Nat) (d : Array Int), e = .returned (.tuple #[.slice (some ⟨g, n - m, none⟩) m m, .nilIface]) ∧ w.heap.size ≤ g ∧ g < w'.heap.size ∧ HI w' g 0 d ∧ d.size = n ∧ Sort.PermIn 0 n (idA n) d ∧ Below w.heap.size w w'
theorem farthest_any (a : Option Addr) (c m : Nat) (l : List R4) (w : World) (hl : RsAt w w.heap.size a l) (hn : l.length < 20) (h1 : 1 ≤ m) (hm : m ≤ l.length) :
    Calls Tryz.prog 68 #[.slice a l.length c, .int .i64 (m : Int)] w (FarE w l.length m) := by
  have CM := Lib.hid (rsmay_any a c l w hl)
  have CH := Lib.hid (fun W (hb : Below w.heap.size w W) => hull_any a c l W ((hl.later hb).wide hb.size))
  have CP := Lib.hid (fun W h (hb : Below w.heap.size w W) (hk : Rk W h) => places_any a l.length c 95 #[] #[.pointer (some ⟨h, 0, none⟩)] l W hn (fun V hB h2 h3 x y hx hy => at_far (W.heap.size + 1) W.heap.size h a c l x y V h2 h3 ((hl.later (hb.trans (hB.mono hb.size))).wide (hb.trans (hB.mono hb.size)).size) hx hy (hk.below hB)))
  obtain ⟨n, hnn⟩ : ∃ n, n = l.length := ⟨_, rfl⟩
  rw [← hnn] at CM CH CP hn hm ⊢
  clear hl hnn
  have m0 : ¬ (m : Int) < 0 := by omega
  have m1 : ¬ (n : Int) < (m : Int) := by omega
  have hw : IntKind.i64.wrap ((n : Int) - (m : Int)) = ((n - m : Nat) : Int) := by
    have e : ((n : Int) - (m : Int)) = ((n - m : Nat) : Int) := by omega
    rw [e]
    exact IntWalk.i64_in _ (by omega)
  go_enter Tryz.func68, Tryz.ntmps68
  go_wp2_with fail
  refine Calls.mono CM.out ?_
  rintro e w1 ⟨rfl, hb1⟩
  have B1 := Lib.hid hb1
  clear hb1
  go_wp2_with fail
  refine Calls.mono (CH.out _ B1.out) ?_
  rintro e w2 ⟨⟨x1, y1, x2, y2⟩, hr, rfl, hb2⟩
  have B2 := Lib.hid (B1.out.trans (hb2.mono B1.out.size))
  have HR := Lib.hid hr
  clear hb2 hr
  unfold rv
  dsimp only
  go_wp2_with fail
  refine Calls.mono (CP.out _ w2.heap.size (B2.out.alloc B2.out.size _) ⟨⟨x1, y1, x2, y2⟩, HR.out, Rc4.new w2 x1 y1 x2 y2 _⟩) ?_
  rintro e w3 ⟨g, d, rfl, hg, hg3, hH, hs, hp, hb3⟩
  have B3 := Lib.hid ((B2.out.alloc B2.out.size _).trans (hb3.mono (B2.out.alloc B2.out.size _).size))
  have HX := Lib.hid (And.intro hg (And.intro hg3 (And.intro hH (And.intro hs hp))))
  have HG := Lib.hid (Nat.le_trans (B2.out.alloc B2.out.size _).size hg)
  clear hb3 hg hg3 hH hs hp CP CH CM
  have k1 : n - m ≤ n := by omega
  have k2 : n - m < n := by omega
  have k3 : n - (n - m) = m := by omega
  go_wp2_with fail

  refine bodyPost_ret (v := .tuple #[.slice (some ⟨g, n - m, none⟩) m m, .nilIface]) (by simp [results, Tryz.results68, go_sem, *]) rfl ⟨g, d, rfl, HG.out, HX.out.2.1, HX.out.2.2.1, HX.out.2.2.2.1, HX.out.2.2.2.2, B3.out⟩
end Go.Proofs.YtobkgamcjfjghaaGreat.Rs
