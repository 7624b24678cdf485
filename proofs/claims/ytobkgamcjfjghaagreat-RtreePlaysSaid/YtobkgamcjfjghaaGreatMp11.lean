/-
  Contract of package rsplit's overlapGrows: some sum. Memory that was there is left as it was.
-/
import Derived.Test.YtobkgamcjfjghaaGreatMp10
import Derived.Deep.CutRange
import Derived.IntWalk
namespace Go.Proofs.YtobkgamcjfjghaaGreat.Rs
open Go.RowKit Go.Proofs.YtobkgamcjfjghaaGreat.Pt Go.Proofs.YtobkgamcjfjghaaGreat.Rc Go.Proofs.YtobkgamcjfjghaaGreat.Pts
set_option linter.unusedVariables false
set_option linter.unusedSimpArgs false
set_option maxHeartbeats 4000000
set_option maxRecDepth 100000
theorem far2 {W : World} {g q x : Nat} {v1 v2 u : Value} (hne : g ≠ q) (h : W.cell? ⟨q, x, none⟩ = some u) : ((W.setCell ⟨g, 0, none⟩ v1).setCell ⟨g, 1, none⟩ v2).cell? ⟨q, x, none⟩ = some u := ((cell_far _ _ hne).trans (cell_far _ _ hne)).trans h
/-- A sum in a block of the call's own. -/
def Su (W : World) (g : Nat) (h l : Int) : Prop := W.cell? ⟨g, 0, none⟩ = some (.int .u64 h) ∧ W.cell? ⟨g, 1, none⟩ = some (.int .u64 l) ∧ W.frozen? ⟨g, 0, none⟩ = false ∧ W.frozen? ⟨g, 1, none⟩ = false
theorem Su.lt {W : World} {g : Nat} {h l : Int} (x : Su W g h l) : g < W.heap.size := World.block_lt_of_cell? W ⟨g, 0, none⟩ x.1
theorem Su.below {W V : World} {z g : Nat} {h l : Int} (x : Su W g h l) (hb : Below z W V) (hg : g < z) : Su V g h l := by
  obtain ⟨a, b, c, d⟩ := x
  have hc := fun o => hb.cell (p := ⟨g, o, none⟩) hg
  have hf := fun o => hb.frozen (p := ⟨g, o, none⟩) hg
  exact ⟨(hc 0).trans a, (hc 1).trans b, (hf 0).trans c, (hf 1).trans d⟩
theorem Su.later {W V : World} {g : Nat} {h l : Int} (x : Su W g h l) (hb : Below W.heap.size W V) : Su V g h l := x.below hb x.lt
theorem Su.new (W : World) (h l : Int) (t : TypeId) : Su (W.alloc (.cells #[.int .u64 h, .int .u64 l] t)) W.heap.size h l := by
  refine ⟨?_, ?_, ?_, ?_⟩ <;> simp [go_sem]
theorem Su.set {W : World} {g : Nat} {h l : Int} (x : Su W g h l) (a b : Int) : Su ((W.setCell ⟨g, 0, none⟩ (.int .u64 a)).setCell ⟨g, 1, none⟩ (.int .u64 b)) g a b := by
  obtain ⟨h0, h1, f0, f1⟩ := x
  refine ⟨?_, ?_, ?_, ?_⟩ <;> simp [go_sem, *]
theorem u64_nn (x : Int) : 0 ≤ IntKind.u64.wrap x := by rw [IntKind.wrap_u64]; omega
def GrR (v : World) (g7 g8 n : Nat) (j : R4) (v19 : Value) (wr : World) : Prop := ∃ (i : Nat) (h lo : Int), v19 = .int .i64 (i : Int) ∧ i ≤ n ∧ 0 ≤ lo ∧ Hid (Rc4 wr g7 j.x1 j.y1 j.x2 j.y2) ∧ Hid (Su wr g8 h lo) ∧ Hid (Below v.heap.size v wr)
/-- The joined rectangle lies in a new block. -/
def GrC (v : World) (s7 : Value) (wx : World) : Prop := ∃ g, s7 = .pointer (some ⟨g, 0, none⟩) ∧ v.heap.size ≤ g ∧ Rk wx g ∧ Below v.heap.size v wx
theorem grows_any (a : Option Addr) (c k : Nat) (l : List R4) (r : R4) (w : World) (hl : RsAt w w.heap.size a l) (hk : k < l.length) (hr : may4 r) :
    Calls Tryz.prog 121 #[.slice a l.length c, .int .i64 (k : Int), rv r] w fun e w' => ∃ h lo : Int, 0 ≤ lo ∧ e = .returned (sv h lo) ∧ Below w.heap.size w w' := by
  have h100 := hl.1
  obtain ⟨b, o, rfl, hb, ⟨ax1, ay1, ax2, ay2⟩, hra, -, c0, c1, c2, c3⟩ := hl.at hk
  obtain ⟨x1, y1, x2, y2⟩ := r
  have HL := Lib.hid hl
  obtain ⟨n, hn⟩ : ∃ n, n = l.length := ⟨_, rfl⟩
  have HN := Lib.hid hn
  rw [← hn] at hk h100 ⊢
  clear hl hn
  have HJ := Lib.hid (join_may hra hr)
  have HRA := Lib.hid hra
  clear hra hr
  unfold rv
  dsimp only at c0 c1 c2 c3 ⊢
  obtain ⟨v, hv⟩ : ∃ v, v = (w.alloc (.cells #[.int .i64 x1, .int .i64 y1, .int .i64 x2, .int .i64 y2] 26)).alloc (.cells #[.int .u64 0, .int .u64 0] 147) := ⟨_, rfl⟩
  have hvs : (w.alloc (.cells #[.int .i64 x1, .int .i64 y1, .int .i64 x2, .int .i64 y2] 26)).alloc (.cells #[.int .u64 0, .int .u64 0] 147) = v := hv.symm
  have BV := Lib.hid (show Below w.heap.size w v by rw [hv]; exact below2 w _ _)
  have SV : w.heap.size + 1 < v.heap.size := by rw [hv]; simp
  have HS : Hid (∀ W, Below v.heap.size v W → W.cell? ⟨b, o + k * 4, none⟩ = some (.int .i64 ax1) ∧ W.cell? ⟨b, o + k * 4 + 1, none⟩ = some (.int .i64 ay1) ∧ W.cell? ⟨b, o + k * 4 + 2, none⟩ = some (.int .i64 ax2) ∧ W.cell? ⟨b, o + k * 4 + 3, none⟩ = some (.int .i64 ay2) ∧ W.cell? ⟨w.heap.size, 0, none⟩ = some (.int .i64 x1) ∧ W.cell? ⟨w.heap.size, 1, none⟩ = some (.int .i64 y1) ∧ W.cell? ⟨w.heap.size, 2, none⟩ = some (.int .i64 x2) ∧ W.cell? ⟨w.heap.size, 3, none⟩ = some (.int .i64 y2) ∧ Below v.heap.size v W) := Lib.hid fun W hB => by
    have q1 : ∀ x, W.cell? ⟨w.heap.size, x, none⟩ = v.cell? ⟨w.heap.size, x, none⟩ := fun x => World.cell?_of_block (w := v) (w' := W) (a := ⟨w.heap.size, x, none⟩) (hB.block w.heap.size (by omega))
    have q2 : ∀ x, W.cell? ⟨b, x, none⟩ = w.cell? ⟨b, x, none⟩ := fun x => World.cell?_of_block (w := w) (w' := W) (a := ⟨b, x, none⟩) ((BV.out.trans (hB.mono BV.out.size)).block b hb)
    simp only [q1, q2]
    refine ⟨c0, c1, c2, c3, ?_, ?_, ?_, ?_, hB⟩ <;> rw [hv] <;> simp
  have SU1 : Hid (Su v (w.heap.size + 1) 0 0) := Lib.hid (by
    have := Su.new (w.alloc (.cells #[.int .i64 x1, .int .i64 y1, .int .i64 x2, .int .i64 y2] 26)) 0 0 147
    rw [World.size_alloc] at this
    rw [hv]; exact this)
  have HV := Lib.hid hvs
  clear hv hvs
  clear c0 c1 c2 c3
  go_enter Tryz.func121, Tryz.ntmps121
  go_wp2_with fail
  rw [HV.out]
  go_cut [7] from 11 to 16 (fun s7 wx => GrC v s7 wx)
  case first =>
    refine wp_region_held_drew (S := (fun W => W.cell? ⟨b, o + k * 4, none⟩ = some (.int .i64 ax1) ∧ W.cell? ⟨b, o + k * 4 + 1, none⟩ = some (.int .i64 ay1) ∧ W.cell? ⟨b, o + k * 4 + 2, none⟩ = some (.int .i64 ax2) ∧ W.cell? ⟨b, o + k * 4 + 3, none⟩ = some (.int .i64 ay2) ∧ W.cell? ⟨w.heap.size, 0, none⟩ = some (.int .i64 x1) ∧ W.cell? ⟨w.heap.size, 1, none⟩ = some (.int .i64 y1) ∧ W.cell? ⟨w.heap.size, 2, none⟩ = some (.int .i64 x2) ∧ W.cell? ⟨w.heap.size, 3, none⟩ = some (.int .i64 y2) ∧ Below v.heap.size v W)) (by kernel_rfl) (HS.out _ (Below.drew (Below.refl _ _))) (fun hHeld => ?_)
    refine wpAnyH_take (i := 0) (v := ?v0) rfl (by kernel_rfl) (by kernel_rfl) (by kernel_rfl) (fun _ _ _ h => h) (Or.inl ⟨by rfl, ?y0⟩) hHeld ?r0
    case y0 => (intro W hSw; simp only [List.getElem_toArray, List.getElem_cons_zero]; go_simp; try (with_reducible rfl))
    simp only [List.getElem_toArray, List.getElem_cons_zero, Act.put, List.setIfInBounds_toArray, List.set_cons_zero, List.set_cons_succ]
    refine wpAnyH_take (i := 1) (v := ?v1) rfl (by kernel_rfl) (by kernel_rfl) (by kernel_rfl) (fun _ _ _ h => h) (Or.inl ⟨by rfl, ?y1⟩) hHeld ?r1
    case y1 => (intro W hSw; simp only [List.getElem_toArray, List.getElem_cons_succ, List.getElem_cons_zero]; go_simp; try (with_reducible rfl))
    simp only [List.getElem_toArray, List.getElem_cons_succ, List.getElem_cons_zero, Act.put, List.setIfInBounds_toArray, List.set_cons_zero, List.set_cons_succ]
    refine wpAnyH_take (i := 2) (v := ?v2) rfl (by kernel_rfl) (by kernel_rfl) (by kernel_rfl) (fun _ _ _ h => h) (Or.inl ⟨by rfl, ?y2⟩) hHeld ?r2
    case y2 => (intro W hSw; simp only [List.getElem_toArray, List.getElem_cons_succ, List.getElem_cons_zero]; go_simp; try (with_reducible rfl))
    simp only [List.getElem_toArray, List.getElem_cons_succ, List.getElem_cons_zero, Act.put, List.setIfInBounds_toArray, List.set_cons_zero, List.set_cons_succ]
    refine wpAnyH_take (i := 3) (v := ?v3) rfl (by kernel_rfl) (by kernel_rfl) (by kernel_rfl) (fun _ _ _ h => h) (Or.inl ⟨by rfl, ?y3⟩) hHeld ?r3
    case y3 => (intro W hSw; simp only [List.getElem_toArray, List.getElem_cons_succ, List.getElem_cons_zero]; go_simp; try (with_reducible rfl))
    simp only [List.getElem_toArray, List.getElem_cons_succ, List.getElem_cons_zero, Act.put, List.setIfInBounds_toArray, List.set_cons_zero, List.set_cons_succ]
    refine wpAnyH_take (i := 4) (v := ?v4) rfl (by kernel_rfl) (by kernel_rfl) (by kernel_rfl) (fun _ _ _ h => h) (Or.inl ⟨by rfl, ?y4⟩) hHeld ?r4
    case y4 => (intro W hSw; simp only [List.getElem_toArray, List.getElem_cons_succ, List.getElem_cons_zero]; go_simp; try (with_reducible rfl))
    simp only [List.getElem_toArray, List.getElem_cons_succ, List.getElem_cons_zero, Act.put, List.setIfInBounds_toArray, List.set_cons_zero, List.set_cons_succ]
    refine wpAnyH_ready (rs := [5, 6]) (by kernel_rfl) (by simp) (AllReadyH.cons rfl (fun K hK => ?_) (AllReadyH.cons rfl (fun K hK => ?_) AllReadyH.nil))
    · simp only [List.getElem_toArray, List.getElem_cons_succ, List.getElem_cons_zero]
      go_simp
      go_at_call 49; refine (join_any ax1 ay1 ax2 ay2 x1 y1 x2 y2 _).mono ?_; rintro e w1 ⟨rfl, hb1⟩
      try go_wp2_with fail
      refine hK.out _ _ (by exact HS.out _ (hHeld.2.2.2.2.2.2.2.2.trans (hb1.mono hHeld.2.2.2.2.2.2.2.2.size))) (fun hHeld1 => ?_)
      clear hK K hHeld
      have hHeld := hHeld1; clear hHeld1
      try simp only [List.getElem_toArray, List.getElem_cons_succ, List.getElem_cons_zero, Act.put, List.setIfInBounds_toArray, List.set_cons_zero, List.set_cons_succ]
      have B1 := Lib.hid hHeld.2.2.2.2.2.2.2.2
      have ZN := Lib.hid (Rc4.new w1 0 0 0 0 26)
      have BA := Lib.hid (B1.out.alloc B1.out.size (.cells #[.int .i64 0, .int .i64 0, .int .i64 0, .int .i64 0] 26))
      clear hb1
      refine wpAnyH_ready (rs := [6]) (by kernel_rfl) (by simp) (AllReadyH.cons rfl (fun K hK => ?_) AllReadyH.nil)
      simp only [List.getElem_toArray, List.getElem_cons_succ, List.getElem_cons_zero]
      go_simp
      try go_wp2_with fail
      refine hK.out _ _ (by exact HS.out _ BA.out) (fun hHeld1 => ?_)
      clear hK K hHeld
      have hHeld := hHeld1; clear hHeld1
      try simp only [List.getElem_toArray, List.getElem_cons_succ, List.getElem_cons_zero, Act.put, List.setIfInBounds_toArray, List.set_cons_zero, List.set_cons_succ]
      refine wpAnyH_ready (rs := [7]) (by kernel_rfl) (by simp) (AllReadyH.cons rfl (fun K hK => ?_) AllReadyH.nil)
      simp only [List.getElem_toArray, List.getElem_cons_succ, List.getElem_cons_zero]
      go_simp
      try go_wp2_with fail
      refine hK.out _ _ (by exact HS.out _ (B1.out.alloc B1.out.size _)) (fun hHeld1 => ?_)
      clear hK K hHeld
      have hHeld := hHeld1; clear hHeld1
      try simp only [List.getElem_toArray, List.getElem_cons_succ, List.getElem_cons_zero, Act.put, List.setIfInBounds_toArray, List.set_cons_zero, List.set_cons_succ]
      refine wpAnyH_done (by kernel_rfl) ?_ _
      clear hHeld
      go_wp2_with fail
      go_meet
      case rel => exact ⟨w1.heap.size, rfl, B1.out.size, ⟨_, HJ.out, Rc4.new w1 _ _ _ _ _⟩, B1.out.alloc B1.out.size _⟩
    · simp only [List.getElem_toArray, List.getElem_cons_succ, List.getElem_cons_zero]
      go_simp
      have B0 := Lib.hid hHeld.2.2.2.2.2.2.2.2
      have BA := Lib.hid (B0.out.alloc B0.out.size (.cells #[.int .i64 0, .int .i64 0, .int .i64 0, .int .i64 0] 26))
      refine hK.out _ _ (by exact HS.out _ BA.out) (fun hHeld1 => ?_)
      clear hK K hHeld
      have hHeld := hHeld1; clear hHeld1
      try simp only [List.getElem_toArray, List.getElem_cons_succ, List.getElem_cons_zero, Act.put, List.setIfInBounds_toArray, List.set_cons_zero, List.set_cons_succ]
      have ZN := Lib.hid (Rc4.new v 0 0 0 0 26)
      refine wpAnyH_ready (rs := [5]) (by kernel_rfl) (by simp) (AllReadyH.cons rfl (fun K hK => ?_) AllReadyH.nil)
      simp only [List.getElem_toArray, List.getElem_cons_succ, List.getElem_cons_zero]
      go_simp
      go_at_call 49; refine (join_any ax1 ay1 ax2 ay2 x1 y1 x2 y2 _).mono ?_; rintro e w1 ⟨rfl, hb1⟩
      try go_wp2_with fail
      refine hK.out _ _ (by exact HS.out _ (BA.out.trans (hb1.mono BA.out.size))) (fun hHeld1 => ?_)
      have ZM := Lib.hid ((Rc4.drew ZN.out).later hb1)
      clear hK K hHeld hb1
      have hHeld := hHeld1; clear hHeld1
      try simp only [List.getElem_toArray, List.getElem_cons_succ, List.getElem_cons_zero, Act.put, List.setIfInBounds_toArray, List.set_cons_zero, List.set_cons_succ]
      have B1 := Lib.hid hHeld.2.2.2.2.2.2.2.2
      obtain ⟨d0, d1, d2, d3, f0, f1, f2, f3⟩ := ZM.out
      refine wpAnyH_ready (rs := [7]) (by kernel_rfl) (by simp) (AllReadyH.cons rfl (fun K hK => ?_) AllReadyH.nil)
      simp only [List.getElem_toArray, List.getElem_cons_succ, List.getElem_cons_zero]
      go_simp
      try go_wp2_with fail
      refine hK.out _ _ (by exact HS.out _ (set4_below B1.out (Nat.le_refl _) _ _ _ _)) (fun hHeld1 => ?_)
      clear hK K hHeld
      have hHeld := hHeld1; clear hHeld1
      try simp only [List.getElem_toArray, List.getElem_cons_succ, List.getElem_cons_zero, Act.put, List.setIfInBounds_toArray, List.set_cons_zero, List.set_cons_succ]
      refine wpAnyH_done (by kernel_rfl) ?_ _
      clear hHeld d0 d1 d2 d3 f0 f1 f2 f3
      go_wp2_with fail
      go_meet
      case rel => exact ⟨v.heap.size, rfl, Nat.le_refl _, ⟨_, HJ.out, ZM.out.set _ _ _ _⟩, set4_below B1.out (Nat.le_refl _) _ _ _ _⟩
  case rest =>
    obtain ⟨g7, rfl, hg7, ⟨⟨jx1, jy1, jx2, jy2⟩, hjm, hR7⟩, hB⟩ := hcut
    have HJM := Lib.hid hjm
    obtain ⟨g8, hg8⟩ : ∃ g, g = wc.heap.size := ⟨_, rfl⟩
    have G8 := Lib.hid hg8
    have R7 := Lib.hid (hR7.alloc (.cells #[.int .u64 0, .int .u64 0] 147))
    have R8 := Lib.hid (Su.new wc 0 0 147)
    have B8 := Lib.hid (hB.alloc hB.size (.cells #[.int .u64 0, .int .u64 0] 147))
    have hl7 := hR7.lt
    have hv8 : v.heap.size ≤ g8 := by rw [hg8]; exact hB.size
    have hn78 : g7 < g8 := by rw [hg8]; exact hl7
    clear hjm hR7 hB HJ hg8 hl7
    go_wp2_with fail
    rw [← G8.out]
    rw [← G8.out] at R8
    go_loopw [9, 10, 19] (fun v9 v10 v19 wr => GrR v g7 g8 n ⟨jx1, jy1, jx2, jy2⟩ v19 wr) (fun _ _ v19 _ => n - (intOf v19).toNat)
    case atStart => exact ⟨0, 0, 0, rfl, Nat.zero_le _, Int.le_refl _, R7, R8, B8⟩
    case round =>
      clear R7 R8 B8
      obtain ⟨i, h, lo, rfl, hi, hlo, R7, R8, HB⟩ := hrel
      by_cases hlt : i < n
      · have hlz : (i : Int) < (n : Int) := by omega
        obtain ⟨b', o', e, hb', ⟨zx1, zy1, zx2, zy2⟩, hz, -, c0, c1, c2, c3⟩ := (HL.out.later (BV.out.trans (HB.out.mono BV.out.size))).at (k := i) (by rw [← HN.out]; exact hlt)
        cases e
        have HZM := Lib.hid hz
        clear hz hb'
        dsimp only at c0 c1 c2 c3
        have KR := Lib.hid (And.intro R7.out (And.intro R8.out HB.out))
        have C4 := Lib.hid (And.intro c0 (And.intro c1 (And.intro c2 c3)))
        have ZN := Lib.hid (Rc4.new wr zx1 zy1 zx2 zy2 26)
        go_wp2_with fail
        · obtain ⟨y, hy⟩ : ∃ y, y = wr.alloc (.cells #[.int .i64 zx1, .int .i64 zy1, .int .i64 zx2, .int .i64 zy2] 26) := ⟨_, rfl⟩
          have BY := Lib.hid (show Below wr.heap.size wr y by rw [hy]; exact (Below.refl _ _).alloc (Nat.le_refl _) _)
          have gy : wr.heap.size < y.heap.size := by rw [hy]; simp
          rw [← hy] at ZN ⊢
          clear hy c0 c1 c2 c3
          have gn : g8 ≠ g7 := by omega
          have gz : g8 ≠ wr.heap.size := by have := R8.out.lt; omega
          have gb : g8 ≠ b := by have := BV.out.size; omega
          have BVY := Lib.hid (HB.out.trans (BY.out.mono HB.out.size))
          have R7y := Lib.hid (R7.out.later BY.out)
          have R8y := Lib.hid (R8.out.later BY.out)
          have HS7 : Hid (∀ W, Below y.heap.size y W → W.cell? ⟨g7, 0, none⟩ = some (.int .i64 jx1) ∧ W.cell? ⟨g7, 1, none⟩ = some (.int .i64 jy1) ∧ W.cell? ⟨g7, 2, none⟩ = some (.int .i64 jx2) ∧ W.cell? ⟨g7, 3, none⟩ = some (.int .i64 jy2) ∧ W.cell? ⟨wr.heap.size, 0, none⟩ = some (.int .i64 zx1) ∧ W.cell? ⟨wr.heap.size, 1, none⟩ = some (.int .i64 zy1) ∧ W.cell? ⟨wr.heap.size, 2, none⟩ = some (.int .i64 zx2) ∧ W.cell? ⟨wr.heap.size, 3, none⟩ = some (.int .i64 zy2) ∧ W.cell? ⟨b, o + k * 4, none⟩ = some (.int .i64 ax1) ∧ W.cell? ⟨b, o + k * 4 + 1, none⟩ = some (.int .i64 ay1) ∧ W.cell? ⟨b, o + k * 4 + 2, none⟩ = some (.int .i64 ax2) ∧ W.cell? ⟨b, o + k * 4 + 3, none⟩ = some (.int .i64 ay2)) := Lib.hid fun W hB => by
            obtain ⟨a0, a1, a2, a3, _⟩ := R7y.out.later hB
            obtain ⟨e0, e1, e2, e3, _⟩ := ZN.out.later hB
            obtain ⟨d0, d1, d2, d3, _⟩ := HS.out W (BVY.out.trans (hB.mono BVY.out.size))
            exact ⟨a0, a1, a2, a3, e0, e1, e2, e3, d0, d1, d2, d3⟩
          have BW := Lib.hid (Below.drew (Below.refl y.heap.size y))
          refine wp_region_held_drew (S := (fun W => W.cell? ⟨g7, 0, none⟩ = some (.int .i64 jx1) ∧ W.cell? ⟨g7, 1, none⟩ = some (.int .i64 jy1) ∧ W.cell? ⟨g7, 2, none⟩ = some (.int .i64 jx2) ∧ W.cell? ⟨g7, 3, none⟩ = some (.int .i64 jy2) ∧ W.cell? ⟨wr.heap.size, 0, none⟩ = some (.int .i64 zx1) ∧ W.cell? ⟨wr.heap.size, 1, none⟩ = some (.int .i64 zy1) ∧ W.cell? ⟨wr.heap.size, 2, none⟩ = some (.int .i64 zx2) ∧ W.cell? ⟨wr.heap.size, 3, none⟩ = some (.int .i64 zy2) ∧ W.cell? ⟨b, o + k * 4, none⟩ = some (.int .i64 ax1) ∧ W.cell? ⟨b, o + k * 4 + 1, none⟩ = some (.int .i64 ay1) ∧ W.cell? ⟨b, o + k * 4 + 2, none⟩ = some (.int .i64 ax2) ∧ W.cell? ⟨b, o + k * 4 + 3, none⟩ = some (.int .i64 ay2))) (by kernel_rfl) (HS7.out _ (Below.drew (Below.refl _ _))) (fun hHeld => ?_)
          refine wpAnyH_take (i := 1) (v := ?vs1) rfl (by kernel_rfl) (by kernel_rfl) (by kernel_rfl) (fun _ _ _ h => h) (Or.inl ⟨by rfl, ?ys1⟩) hHeld ?rs1
          case ys1 => (intro W hSw; simp only [List.getElem_toArray, List.getElem_cons_succ, List.getElem_cons_zero]; go_simp; try (with_reducible rfl))
          simp only [List.getElem_toArray, List.getElem_cons_succ, List.getElem_cons_zero, Act.put, List.setIfInBounds_toArray, List.set_cons_zero, List.set_cons_succ]
          refine wpAnyH_take (i := 2) (v := ?vs2) rfl (by kernel_rfl) (by kernel_rfl) (by kernel_rfl) (fun _ _ _ h => h) (Or.inl ⟨by rfl, ?ys2⟩) hHeld ?rs2
          case ys2 => (intro W hSw; simp only [List.getElem_toArray, List.getElem_cons_succ, List.getElem_cons_zero]; go_simp; try (with_reducible rfl))
          simp only [List.getElem_toArray, List.getElem_cons_succ, List.getElem_cons_zero, Act.put, List.setIfInBounds_toArray, List.set_cons_zero, List.set_cons_succ]
          refine wpAnyH_take (i := 4) (v := ?vs4) rfl (by kernel_rfl) (by kernel_rfl) (by kernel_rfl) (fun _ _ _ h => h) (Or.inl ⟨by rfl, ?ys4⟩) hHeld ?rs4
          case ys4 => (intro W hSw; simp only [List.getElem_toArray, List.getElem_cons_succ, List.getElem_cons_zero]; go_simp; try (with_reducible rfl))
          simp only [List.getElem_toArray, List.getElem_cons_succ, List.getElem_cons_zero, Act.put, List.setIfInBounds_toArray, List.set_cons_zero, List.set_cons_succ]
          refine wpAnyH_take (i := 5) (v := ?vs5) rfl (by kernel_rfl) (by kernel_rfl) (by kernel_rfl) (fun _ _ _ h => h) (Or.inl ⟨by rfl, ?ys5⟩) hHeld ?rs5
          case ys5 => (intro W hSw; simp only [List.getElem_toArray, List.getElem_cons_succ, List.getElem_cons_zero]; go_simp; try (with_reducible rfl))
          simp only [List.getElem_toArray, List.getElem_cons_succ, List.getElem_cons_zero, Act.put, List.setIfInBounds_toArray, List.set_cons_zero, List.set_cons_succ]
          refine wpAnyH_take (i := 6) (v := ?vs6) rfl (by kernel_rfl) (by kernel_rfl) (by kernel_rfl) (fun _ _ _ h => h) (Or.inl ⟨by rfl, ?ys6⟩) hHeld ?rs6
          case ys6 => (intro W hSw; simp only [List.getElem_toArray, List.getElem_cons_succ, List.getElem_cons_zero]; go_simp; try (with_reducible rfl))
          simp only [List.getElem_toArray, List.getElem_cons_succ, List.getElem_cons_zero, Act.put, List.setIfInBounds_toArray, List.set_cons_zero, List.set_cons_succ]
          refine wpAnyH_take (i := 7) (v := ?vs7) rfl (by kernel_rfl) (by kernel_rfl) (by kernel_rfl) (fun _ _ _ h => h) (Or.inl ⟨by rfl, ?ys7⟩) hHeld ?rs7
          case ys7 => (intro W hSw; simp only [List.getElem_toArray, List.getElem_cons_succ, List.getElem_cons_zero]; go_simp; try (with_reducible rfl))
          simp only [List.getElem_toArray, List.getElem_cons_succ, List.getElem_cons_zero, Act.put, List.setIfInBounds_toArray, List.set_cons_zero, List.set_cons_succ]
          refine wpAnyH_take (i := 8) (v := ?vs8) rfl (by kernel_rfl) (by kernel_rfl) (by kernel_rfl) (fun _ _ _ h => h) (Or.inl ⟨by rfl, ?ys8⟩) hHeld ?rs8
          case ys8 => (intro W hSw; simp only [List.getElem_toArray, List.getElem_cons_succ, List.getElem_cons_zero]; go_simp; try (with_reducible rfl))
          simp only [List.getElem_toArray, List.getElem_cons_succ, List.getElem_cons_zero, Act.put, List.setIfInBounds_toArray, List.set_cons_zero, List.set_cons_succ]
          refine wpAnyH_ready (rs := [0, 3]) (by kernel_rfl) (by simp) (AllReadyH.cons rfl (fun K hK => ?_) (AllReadyH.cons rfl (fun K hK => ?_) AllReadyH.nil))
          · simp only [List.getElem_toArray, List.getElem_cons_zero]
            have F8 := R8y.out.later BW.out
            obtain ⟨b0, b1, b2, b3⟩ := F8
            go_simp
            clear b0 b1 b2 b3
            refine hK.out _ _ (by exact hHeld) (fun hHeld1 => ?_)
            clear hK K hHeld
            have hHeld := hHeld1; clear hHeld1
            try simp only [List.getElem_toArray, List.getElem_cons_succ, List.getElem_cons_zero, Act.put, List.setIfInBounds_toArray, List.set_cons_zero, List.set_cons_succ]
            refine wpAnyH_ready (rs := [3]) (by kernel_rfl) (by simp) (AllReadyH.cons rfl (fun K hK => ?_) AllReadyH.nil)
            simp only [List.getElem_toArray, List.getElem_cons_succ, List.getElem_cons_zero]
            go_simp
            go_at_call 111; refine (overlap_any ⟨jx1, jy1, jx2, jy2⟩ ⟨zx1, zy1, zx2, zy2⟩ _ HJM.out HZM.out).mono ?_; rintro e w3 ⟨n3, rfl, hb1⟩
            try go_wp2_with fail
            have BWn := Lib.hid (BW.out.trans (hb1.mono BW.out.size))
            refine hK.out _ _ (by exact HS7.out _ BWn.out) (fun hHeld1 => ?_)
            clear hK K hHeld hb1 BW
            have BW := BWn; clear BWn
            have hHeld := hHeld1; clear hHeld1
            try simp only [List.getElem_toArray, List.getElem_cons_succ, List.getElem_cons_zero, Act.put, List.setIfInBounds_toArray, List.set_cons_zero, List.set_cons_succ]
            refine wpAnyH_ready (rs := [9]) (by kernel_rfl) (by simp) (AllReadyH.cons rfl (fun K hK => ?_) AllReadyH.nil)
            simp only [List.getElem_toArray, List.getElem_cons_succ, List.getElem_cons_zero]
            go_simp
            go_at_call 111; refine (overlap_any ⟨ax1, ay1, ax2, ay2⟩ ⟨zx1, zy1, zx2, zy2⟩ _ HRA.out HZM.out).mono ?_; rintro e w9 ⟨n9, rfl, hb1⟩
            try go_wp2_with fail
            have BWn := Lib.hid (BW.out.trans (hb1.mono BW.out.size))
            refine hK.out _ _ (by exact HS7.out _ BWn.out) (fun hHeld1 => ?_)
            clear hK K hHeld hb1 BW
            have BW := BWn; clear BWn
            have hHeld := hHeld1; clear hHeld1
            try simp only [List.getElem_toArray, List.getElem_cons_succ, List.getElem_cons_zero, Act.put, List.setIfInBounds_toArray, List.set_cons_zero, List.set_cons_succ]
            refine wpAnyH_take (i := 10) (v := ?va10) rfl (by kernel_rfl) (by kernel_rfl) (by kernel_rfl) (fun _ _ _ h => h) (Or.inl ⟨by rfl, ?ya10⟩) hHeld ?ra10
            case ya10 => (intro W hSw; simp only [List.getElem_toArray, List.getElem_cons_succ, List.getElem_cons_zero]; go_simp; try (with_reducible rfl))
            simp only [List.getElem_toArray, List.getElem_cons_succ, List.getElem_cons_zero, Act.put, List.setIfInBounds_toArray, List.set_cons_zero, List.set_cons_succ]
            refine wpAnyH_take (i := 11) (v := ?va11) rfl (by kernel_rfl) (by kernel_rfl) (by kernel_rfl) (fun _ _ _ h => h) (Or.inl ⟨by rfl, ?ya11⟩) hHeld ?ra11
            case ya11 => (intro W hSw; simp only [List.getElem_toArray, List.getElem_cons_succ, List.getElem_cons_zero]; go_simp; try (with_reducible rfl))
            simp only [List.getElem_toArray, List.getElem_cons_succ, List.getElem_cons_zero, Act.put, List.setIfInBounds_toArray, List.set_cons_zero, List.set_cons_succ]
            refine wpAnyH_ready (rs := [12]) (by kernel_rfl) (by simp) (AllReadyH.cons rfl (fun K hK => ?_) AllReadyH.nil)
            simp only [List.getElem_toArray, List.getElem_cons_succ, List.getElem_cons_zero]
            go_simp
            go_at_call 125; refine (plus_any h lo _ _ hlo (u64_nn _)).mono ?_; rintro e w12 ⟨h2, lo2, hlo2, rfl, hb1⟩
            try go_wp2_with fail
            have BWn := Lib.hid (BW.out.trans (hb1.mono BW.out.size))
            refine hK.out _ _ (by exact HS7.out _ BWn.out) (fun hHeld1 => ?_)
            clear hK K hHeld hb1 BW
            have BW := BWn; clear BWn
            have hHeld := hHeld1; clear hHeld1
            try simp only [List.getElem_toArray, List.getElem_cons_succ, List.getElem_cons_zero, Act.put, List.setIfInBounds_toArray, List.set_cons_zero, List.set_cons_succ]
            have BZ := BW
            have BVZ := Lib.hid (BVY.out.trans (BZ.out.mono BVY.out.size))
            have R7z := Lib.hid (R7y.out.later BZ.out)
            have R8z := Lib.hid (R8y.out.later BZ.out)
            have HHZ := Lib.hid hHeld
            obtain ⟨f0, f1, f2, f3⟩ := R8z.out
            refine wpAnyH_ready (rs := [13]) (by kernel_rfl) (by simp) (AllReadyH.cons rfl (fun K hK => ?_) AllReadyH.nil)
            simp only [List.getElem_toArray, List.getElem_cons_succ, List.getElem_cons_zero, sv]
            go_simp
            have RS := Lib.hid (R8z.out.set h2 lo2)
            have RB := Lib.hid (show Below v.heap.size v ((w12.setCell ⟨g8, 0, none⟩ (.int .u64 h2)).setCell ⟨g8, 1, none⟩ (.int .u64 lo2)) from (BVZ.out.setCell hv8 _).setCell hv8 _)
            have RC := Lib.hid (show Rc4 ((w12.setCell ⟨g8, 0, none⟩ (.int .u64 h2)).setCell ⟨g8, 1, none⟩ (.int .u64 lo2)) g7 jx1 jy1 jx2 jy2 from Rc4.far (Rc4.far R7z.out _ gn) _ gn)
            refine hK.out _ _ (by obtain ⟨a0, a1, a2, a3, e0, e1, e2, e3, d0, d1, d2, d3⟩ := HHZ.out; exact ⟨far2 (v1 := .int .u64 h2) (v2 := .int .u64 lo2) gn a0, far2 (v1 := .int .u64 h2) (v2 := .int .u64 lo2) gn a1, far2 (v1 := .int .u64 h2) (v2 := .int .u64 lo2) gn a2, far2 (v1 := .int .u64 h2) (v2 := .int .u64 lo2) gn a3, far2 (v1 := .int .u64 h2) (v2 := .int .u64 lo2) gz e0, far2 (v1 := .int .u64 h2) (v2 := .int .u64 lo2) gz e1, far2 (v1 := .int .u64 h2) (v2 := .int .u64 lo2) gz e2, far2 (v1 := .int .u64 h2) (v2 := .int .u64 lo2) gz e3, far2 (v1 := .int .u64 h2) (v2 := .int .u64 lo2) gb d0, far2 (v1 := .int .u64 h2) (v2 := .int .u64 lo2) gb d1, far2 (v1 := .int .u64 h2) (v2 := .int .u64 lo2) gb d2, far2 (v1 := .int .u64 h2) (v2 := .int .u64 lo2) gb d3⟩) (fun hHeld1 => ?_)
            clear hK K hHeld f0 f1 f2 f3 hHeld1
            refine wpAnyH_done (by kernel_rfl) ?_ _
            go_wp2_with fail
            go_roundw
            case rel => exact ⟨i + 1, h2, lo2, by go_num, by omega, hlo2, RC, RS, RB⟩
            case measure => simp [intOf]; omega
          · simp only [List.getElem_toArray, List.getElem_cons_succ, List.getElem_cons_zero]
            go_simp
            go_at_call 111; refine (overlap_any ⟨jx1, jy1, jx2, jy2⟩ ⟨zx1, zy1, zx2, zy2⟩ _ HJM.out HZM.out).mono ?_; rintro e w3 ⟨n3, rfl, hb1⟩
            try go_wp2_with fail
            have BWn := Lib.hid (BW.out.trans (hb1.mono BW.out.size))
            refine hK.out _ _ (by exact HS7.out _ BWn.out) (fun hHeld1 => ?_)
            clear hK K hHeld hb1 BW
            have BW := BWn; clear BWn
            have hHeld := hHeld1; clear hHeld1
            try simp only [List.getElem_toArray, List.getElem_cons_succ, List.getElem_cons_zero, Act.put, List.setIfInBounds_toArray, List.set_cons_zero, List.set_cons_succ]
            refine wpAnyH_ready (rs := [0, 9]) (by kernel_rfl) (by simp) (AllReadyH.cons rfl (fun K hK => ?_) (AllReadyH.cons rfl (fun K hK => ?_) AllReadyH.nil))
            · simp only [List.getElem_toArray, List.getElem_cons_zero]
              have F8 := R8y.out.later BW.out
              obtain ⟨b0, b1, b2, b3⟩ := F8
              go_simp
              clear b0 b1 b2 b3
              refine hK.out _ _ (by exact hHeld) (fun hHeld1 => ?_)
              clear hK K hHeld
              have hHeld := hHeld1; clear hHeld1
              try simp only [List.getElem_toArray, List.getElem_cons_succ, List.getElem_cons_zero, Act.put, List.setIfInBounds_toArray, List.set_cons_zero, List.set_cons_succ]
              refine wpAnyH_ready (rs := [9]) (by kernel_rfl) (by simp) (AllReadyH.cons rfl (fun K hK => ?_) AllReadyH.nil)
              simp only [List.getElem_toArray, List.getElem_cons_succ, List.getElem_cons_zero]
              go_simp
              go_at_call 111; refine (overlap_any ⟨ax1, ay1, ax2, ay2⟩ ⟨zx1, zy1, zx2, zy2⟩ _ HRA.out HZM.out).mono ?_; rintro e w9 ⟨n9, rfl, hb1⟩
              try go_wp2_with fail
              have BWn := Lib.hid (BW.out.trans (hb1.mono BW.out.size))
              refine hK.out _ _ (by exact HS7.out _ BWn.out) (fun hHeld1 => ?_)
              clear hK K hHeld hb1 BW
              have BW := BWn; clear BWn
              have hHeld := hHeld1; clear hHeld1
              try simp only [List.getElem_toArray, List.getElem_cons_succ, List.getElem_cons_zero, Act.put, List.setIfInBounds_toArray, List.set_cons_zero, List.set_cons_succ]
              refine wpAnyH_take (i := 10) (v := ?vb10) rfl (by kernel_rfl) (by kernel_rfl) (by kernel_rfl) (fun _ _ _ h => h) (Or.inl ⟨by rfl, ?yb10⟩) hHeld ?rb10
              case yb10 => (intro W hSw; simp only [List.getElem_toArray, List.getElem_cons_succ, List.getElem_cons_zero]; go_simp; try (with_reducible rfl))
              simp only [List.getElem_toArray, List.getElem_cons_succ, List.getElem_cons_zero, Act.put, List.setIfInBounds_toArray, List.set_cons_zero, List.set_cons_succ]
              refine wpAnyH_take (i := 11) (v := ?vb11) rfl (by kernel_rfl) (by kernel_rfl) (by kernel_rfl) (fun _ _ _ h => h) (Or.inl ⟨by rfl, ?yb11⟩) hHeld ?rb11
              case yb11 => (intro W hSw; simp only [List.getElem_toArray, List.getElem_cons_succ, List.getElem_cons_zero]; go_simp; try (with_reducible rfl))
              simp only [List.getElem_toArray, List.getElem_cons_succ, List.getElem_cons_zero, Act.put, List.setIfInBounds_toArray, List.set_cons_zero, List.set_cons_succ]
              refine wpAnyH_ready (rs := [12]) (by kernel_rfl) (by simp) (AllReadyH.cons rfl (fun K hK => ?_) AllReadyH.nil)
              simp only [List.getElem_toArray, List.getElem_cons_succ, List.getElem_cons_zero]
              go_simp
              go_at_call 125; refine (plus_any h lo _ _ hlo (u64_nn _)).mono ?_; rintro e w12 ⟨h2, lo2, hlo2, rfl, hb1⟩
              try go_wp2_with fail
              have BWn := Lib.hid (BW.out.trans (hb1.mono BW.out.size))
              refine hK.out _ _ (by exact HS7.out _ BWn.out) (fun hHeld1 => ?_)
              clear hK K hHeld hb1 BW
              have BW := BWn; clear BWn
              have hHeld := hHeld1; clear hHeld1
              try simp only [List.getElem_toArray, List.getElem_cons_succ, List.getElem_cons_zero, Act.put, List.setIfInBounds_toArray, List.set_cons_zero, List.set_cons_succ]
              have BZ := BW
              have BVZ := Lib.hid (BVY.out.trans (BZ.out.mono BVY.out.size))
              have R7z := Lib.hid (R7y.out.later BZ.out)
              have R8z := Lib.hid (R8y.out.later BZ.out)
              have HHZ := Lib.hid hHeld
              obtain ⟨f0, f1, f2, f3⟩ := R8z.out
              refine wpAnyH_ready (rs := [13]) (by kernel_rfl) (by simp) (AllReadyH.cons rfl (fun K hK => ?_) AllReadyH.nil)
              simp only [List.getElem_toArray, List.getElem_cons_succ, List.getElem_cons_zero, sv]
              go_simp
              have RS := Lib.hid (R8z.out.set h2 lo2)
              have RB := Lib.hid (show Below v.heap.size v ((w12.setCell ⟨g8, 0, none⟩ (.int .u64 h2)).setCell ⟨g8, 1, none⟩ (.int .u64 lo2)) from (BVZ.out.setCell hv8 _).setCell hv8 _)
              have RC := Lib.hid (show Rc4 ((w12.setCell ⟨g8, 0, none⟩ (.int .u64 h2)).setCell ⟨g8, 1, none⟩ (.int .u64 lo2)) g7 jx1 jy1 jx2 jy2 from Rc4.far (Rc4.far R7z.out _ gn) _ gn)
              refine hK.out _ _ (by obtain ⟨a0, a1, a2, a3, e0, e1, e2, e3, d0, d1, d2, d3⟩ := HHZ.out; exact ⟨far2 (v1 := .int .u64 h2) (v2 := .int .u64 lo2) gn a0, far2 (v1 := .int .u64 h2) (v2 := .int .u64 lo2) gn a1, far2 (v1 := .int .u64 h2) (v2 := .int .u64 lo2) gn a2, far2 (v1 := .int .u64 h2) (v2 := .int .u64 lo2) gn a3, far2 (v1 := .int .u64 h2) (v2 := .int .u64 lo2) gz e0, far2 (v1 := .int .u64 h2) (v2 := .int .u64 lo2) gz e1, far2 (v1 := .int .u64 h2) (v2 := .int .u64 lo2) gz e2, far2 (v1 := .int .u64 h2) (v2 := .int .u64 lo2) gz e3, far2 (v1 := .int .u64 h2) (v2 := .int .u64 lo2) gb d0, far2 (v1 := .int .u64 h2) (v2 := .int .u64 lo2) gb d1, far2 (v1 := .int .u64 h2) (v2 := .int .u64 lo2) gb d2, far2 (v1 := .int .u64 h2) (v2 := .int .u64 lo2) gb d3⟩) (fun hHeld1 => ?_)
              clear hK K hHeld f0 f1 f2 f3 hHeld1
              refine wpAnyH_done (by kernel_rfl) ?_ _
              go_wp2_with fail
              go_roundw
              case rel => exact ⟨i + 1, h2, lo2, by go_num, by omega, hlo2, RC, RS, RB⟩
              case measure => simp [intOf]; omega
            · simp only [List.getElem_toArray, List.getElem_cons_succ, List.getElem_cons_zero]
              go_simp
              go_at_call 111; refine (overlap_any ⟨ax1, ay1, ax2, ay2⟩ ⟨zx1, zy1, zx2, zy2⟩ _ HRA.out HZM.out).mono ?_; rintro e w9 ⟨n9, rfl, hb1⟩
              try go_wp2_with fail
              have BWn := Lib.hid (BW.out.trans (hb1.mono BW.out.size))
              refine hK.out _ _ (by exact HS7.out _ BWn.out) (fun hHeld1 => ?_)
              clear hK K hHeld hb1 BW
              have BW := BWn; clear BWn
              have hHeld := hHeld1; clear hHeld1
              try simp only [List.getElem_toArray, List.getElem_cons_succ, List.getElem_cons_zero, Act.put, List.setIfInBounds_toArray, List.set_cons_zero, List.set_cons_succ]
              refine wpAnyH_take (i := 10) (v := ?vc10) rfl (by kernel_rfl) (by kernel_rfl) (by kernel_rfl) (fun _ _ _ h => h) (Or.inl ⟨by rfl, ?yc10⟩) hHeld ?rc10
              case yc10 => (intro W hSw; simp only [List.getElem_toArray, List.getElem_cons_succ, List.getElem_cons_zero]; go_simp; try (with_reducible rfl))
              simp only [List.getElem_toArray, List.getElem_cons_succ, List.getElem_cons_zero, Act.put, List.setIfInBounds_toArray, List.set_cons_zero, List.set_cons_succ]
              refine wpAnyH_take (i := 11) (v := ?vc11) rfl (by kernel_rfl) (by kernel_rfl) (by kernel_rfl) (fun _ _ _ h => h) (Or.inl ⟨by rfl, ?yc11⟩) hHeld ?rc11
              case yc11 => (intro W hSw; simp only [List.getElem_toArray, List.getElem_cons_succ, List.getElem_cons_zero]; go_simp; try (with_reducible rfl))
              simp only [List.getElem_toArray, List.getElem_cons_succ, List.getElem_cons_zero, Act.put, List.setIfInBounds_toArray, List.set_cons_zero, List.set_cons_succ]
              refine wpAnyH_ready (rs := [0]) (by kernel_rfl) (by simp) (AllReadyH.cons rfl (fun K hK => ?_) AllReadyH.nil)
              simp only [List.getElem_toArray, List.getElem_cons_zero]
              have F8 := R8y.out.later BW.out
              obtain ⟨b0, b1, b2, b3⟩ := F8
              go_simp
              clear b0 b1 b2 b3
              refine hK.out _ _ (by exact hHeld) (fun hHeld1 => ?_)
              clear hK K hHeld
              have hHeld := hHeld1; clear hHeld1
              try simp only [List.getElem_toArray, List.getElem_cons_succ, List.getElem_cons_zero, Act.put, List.setIfInBounds_toArray, List.set_cons_zero, List.set_cons_succ]
              refine wpAnyH_ready (rs := [12]) (by kernel_rfl) (by simp) (AllReadyH.cons rfl (fun K hK => ?_) AllReadyH.nil)
              simp only [List.getElem_toArray, List.getElem_cons_succ, List.getElem_cons_zero]
              go_simp
              go_at_call 125; refine (plus_any h lo _ _ hlo (u64_nn _)).mono ?_; rintro e w12 ⟨h2, lo2, hlo2, rfl, hb1⟩
              try go_wp2_with fail
              have BWn := Lib.hid (BW.out.trans (hb1.mono BW.out.size))
              refine hK.out _ _ (by exact HS7.out _ BWn.out) (fun hHeld1 => ?_)
              clear hK K hHeld hb1 BW
              have BW := BWn; clear BWn
              have hHeld := hHeld1; clear hHeld1
              try simp only [List.getElem_toArray, List.getElem_cons_succ, List.getElem_cons_zero, Act.put, List.setIfInBounds_toArray, List.set_cons_zero, List.set_cons_succ]
              have BZ := BW
              have BVZ := Lib.hid (BVY.out.trans (BZ.out.mono BVY.out.size))
              have R7z := Lib.hid (R7y.out.later BZ.out)
              have R8z := Lib.hid (R8y.out.later BZ.out)
              have HHZ := Lib.hid hHeld
              obtain ⟨f0, f1, f2, f3⟩ := R8z.out
              refine wpAnyH_ready (rs := [13]) (by kernel_rfl) (by simp) (AllReadyH.cons rfl (fun K hK => ?_) AllReadyH.nil)
              simp only [List.getElem_toArray, List.getElem_cons_succ, List.getElem_cons_zero, sv]
              go_simp
              have RS := Lib.hid (R8z.out.set h2 lo2)
              have RB := Lib.hid (show Below v.heap.size v ((w12.setCell ⟨g8, 0, none⟩ (.int .u64 h2)).setCell ⟨g8, 1, none⟩ (.int .u64 lo2)) from (BVZ.out.setCell hv8 _).setCell hv8 _)
              have RC := Lib.hid (show Rc4 ((w12.setCell ⟨g8, 0, none⟩ (.int .u64 h2)).setCell ⟨g8, 1, none⟩ (.int .u64 lo2)) g7 jx1 jy1 jx2 jy2 from Rc4.far (Rc4.far R7z.out _ gn) _ gn)
              refine hK.out _ _ (by obtain ⟨a0, a1, a2, a3, e0, e1, e2, e3, d0, d1, d2, d3⟩ := HHZ.out; exact ⟨far2 (v1 := .int .u64 h2) (v2 := .int .u64 lo2) gn a0, far2 (v1 := .int .u64 h2) (v2 := .int .u64 lo2) gn a1, far2 (v1 := .int .u64 h2) (v2 := .int .u64 lo2) gn a2, far2 (v1 := .int .u64 h2) (v2 := .int .u64 lo2) gn a3, far2 (v1 := .int .u64 h2) (v2 := .int .u64 lo2) gz e0, far2 (v1 := .int .u64 h2) (v2 := .int .u64 lo2) gz e1, far2 (v1 := .int .u64 h2) (v2 := .int .u64 lo2) gz e2, far2 (v1 := .int .u64 h2) (v2 := .int .u64 lo2) gz e3, far2 (v1 := .int .u64 h2) (v2 := .int .u64 lo2) gb d0, far2 (v1 := .int .u64 h2) (v2 := .int .u64 lo2) gb d1, far2 (v1 := .int .u64 h2) (v2 := .int .u64 lo2) gb d2, far2 (v1 := .int .u64 h2) (v2 := .int .u64 lo2) gb d3⟩) (fun hHeld1 => ?_)
              clear hK K hHeld f0 f1 f2 f3 hHeld1
              refine wpAnyH_done (by kernel_rfl) ?_ _
              go_wp2_with fail
              go_roundw
              case rel => exact ⟨i + 1, h2, lo2, by go_num, by omega, hlo2, RC, RS, RB⟩
              case measure => simp [intOf]; omega
        · go_roundw
          case rel => exact ⟨i + 1, h, lo, by go_num, by omega, hlo, Lib.hid (R7.out.alloc _), Lib.hid (R8.out.later ((Below.refl _ _).alloc (Nat.le_refl _) _)), Lib.hid (HB.out.alloc HB.out.size _)⟩
          case measure => simp [intOf]; omega
      · have hlz : ¬ (i : Int) < (n : Int) := by omega
        obtain ⟨b0, b1, _, _⟩ := R8.out
        have SUW := Lib.hid (SU1.out.below HB.out SV)
        obtain ⟨e0, e1, e2, e3⟩ := SUW.out
        go_wp2_with fail
        have SUN := Lib.hid (SUW.out.set h lo)
        obtain ⟨d0, d1, d2, d3⟩ := SUN.out
        have BE := Lib.hid (show Below w.heap.size w ((wr.setCell ⟨w.heap.size + 1, 0, none⟩ (.int .u64 h)).setCell ⟨w.heap.size + 1, 1, none⟩ (.int .u64 lo)) from ((BV.out.trans (HB.out.mono BV.out.size)).setCell (Nat.le_succ _) _).setCell (Nat.le_succ _) _)
        clear e0 e1 e2 e3 b0 b1
        refine bodyPost_ret (v := sv h lo) ?hv rfl ?hr
        case hv => simp [results, Tryz.results121, go_sem, sv, *]
        case hr => exact ⟨h, lo, hlo, rfl, BE.out⟩
end Go.Proofs.YtobkgamcjfjghaaGreat.Rs
