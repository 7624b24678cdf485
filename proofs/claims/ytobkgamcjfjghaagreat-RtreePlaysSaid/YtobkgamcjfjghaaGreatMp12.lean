/-
  Contract of pathFor: the nodes from the one that is to take a part in up to the root. Memory that was there is left as it was.
-/
import Derived.Test.YtobkgamcjfjghaaGreatMp11
import Derived.Test.YtobkgamcjfjghaaGreatMp04
import Derived.CellFam
import Derived.Test.YtobkgamcjfjghaaGreatMp10
import Derived.BigQuiet
import Derived.WalkSmall
import Derived.Lib.SmallJoins
/-
  Contract of package rsplit's costOf: some cost. Memory that was there is left as it was.
-/
namespace Go.Proofs.YtobkgamcjfjghaaGreat.Rs
open Go.RowKit Go.Proofs.YtobkgamcjfjghaaGreat.Pt Go.Proofs.YtobkgamcjfjghaaGreat.Rc Go.Proofs.YtobkgamcjfjghaaGreat.Pts
set_option linter.unusedVariables false
set_option linter.unusedSimpArgs false
set_option maxHeartbeats 4000000
set_option maxRecDepth 100000
/-- A cost in a block of the call's own. -/
def Co (W : World) (g : Nat) (h l a b : Int) : Prop := W.cell? ⟨g, 0, none⟩ = some (.int .u64 h) ∧ W.cell? ⟨g, 1, none⟩ = some (.int .u64 l) ∧ W.cell? ⟨g, 2, none⟩ = some (.int .i64 a) ∧ W.cell? ⟨g, 3, none⟩ = some (.int .i64 b) ∧ W.frozen? ⟨g, 0, none⟩ = false ∧ W.frozen? ⟨g, 1, none⟩ = false ∧ W.frozen? ⟨g, 2, none⟩ = false ∧ W.frozen? ⟨g, 3, none⟩ = false
theorem Co.lt {W : World} {g : Nat} {h l a b : Int} (x : Co W g h l a b) : g < W.heap.size := World.block_lt_of_cell? W ⟨g, 0, none⟩ x.1
theorem Co.below {W V : World} {z g : Nat} {h l a b : Int} (x : Co W g h l a b) (hb : Below z W V) (hg : g < z) : Co V g h l a b := by
  have hc := fun o => hb.cell (p := ⟨g, o, none⟩) hg
  have hf := fun o => hb.frozen (p := ⟨g, o, none⟩) hg
  unfold Co
  simp only [hc, hf]
  exact x
theorem Co.later {W V : World} {g : Nat} {h l a b : Int} (x : Co W g h l a b) (hb : Below W.heap.size W V) : Co V g h l a b := x.below hb x.lt
theorem Co.new (W : World) (h l a b : Int) (t : TypeId) : Co (W.alloc (.cells #[.int .u64 h, .int .u64 l, .int .i64 a, .int .i64 b] t)) W.heap.size h l a b := by
  refine ⟨?_, ?_, ?_, ?_, ?_, ?_, ?_, ?_⟩ <;> simp [go_sem]
theorem Co.drewd {W : World} {g : Nat} {h l a b : Int} (x : Co W g h l a b) : Co W.drew g h l a b := x
theorem Co.set {W : World} {g : Nat} {h l a b : Int} (x : Co W g h l a b) (h' l' a' b' : Int) : Co ((((W.setCell ⟨g, 0, none⟩ (.int .u64 h')).setCell ⟨g, 1, none⟩ (.int .u64 l')).setCell ⟨g, 2, none⟩ (.int .i64 a')).setCell ⟨g, 3, none⟩ (.int .i64 b')) g h' l' a' b' := by
  obtain ⟨h0, h1, h2, h3, f0, f1, f2, f3⟩ := x
  refine ⟨?_, ?_, ?_, ?_, ?_, ?_, ?_, ?_⟩ <;> simp [go_sem, *]
theorem Co.set2 {W : World} {g : Nat} {h l a b : Int} (x : Co W g h l a b) (h' l' : Int) : Co ((W.setCell ⟨g, 0, none⟩ (.int .u64 h')).setCell ⟨g, 1, none⟩ (.int .u64 l')) g h' l' a b := by
  obtain ⟨h0, h1, h2, h3, f0, f1, f2, f3⟩ := x
  refine ⟨?_, ?_, ?_, ?_, ?_, ?_, ?_, ?_⟩ <;> simp [go_sem, *]
theorem Co.far2 {W : World} {g q : Nat} {h l a b : Int} (x : Co W g h l a b) (hq : q ≠ g) (v1 v2 : Value) : Co ((W.setCell ⟨q, 0, none⟩ v1).setCell ⟨q, 1, none⟩ v2) g h l a b := by
  obtain ⟨h0, h1, h2, h3, f0, f1, f2, f3⟩ := x
  exact ⟨Rs.far2 hq h0, Rs.far2 hq h1, Rs.far2 hq h2, Rs.far2 hq h3, ((frozen_set ..).trans (frozen_set ..)).trans f0, ((frozen_set ..).trans (frozen_set ..)).trans f1, ((frozen_set ..).trans (frozen_set ..)).trans f2, ((frozen_set ..).trans (frozen_set ..)).trans f3⟩
/-- The cost lies in a new block. -/
def CoC (v : World) (s9 : Value) (wx : World) : Prop := ∃ g h l a b, s9 = .pointer (some ⟨g, 0, none⟩) ∧ v.heap.size ≤ g ∧ Co wx g h l a b ∧ Below v.heap.size v wx
theorem costOf_any (a : Option Addr) (c k : Nat) (l : List R4) (r : R4) (f : Bool) (w : World) (hl : RsAt w w.heap.size a l) (hk : k < l.length) (hr : may4 r) :
    Calls Tryz.prog 104 #[.slice a l.length c, .int .i64 (k : Int), rv r, .bool f] w fun e w' => ∃ h lo p q : Int, e = .returned (cv h lo p q) ∧ Below w.heap.size w w' := by
  have CO0 := Lib.hid (fun W (hb : Below w.heap.size w W) => grows_any a c k l r W ((hl.later hb).wide hb.size) hk hr)
  obtain ⟨b, o, rfl, hb, ⟨ax1, ay1, ax2, ay2⟩, hra, -, c0, c1, c2, c3⟩ := hl.at hk
  obtain ⟨x1, y1, x2, y2⟩ := r
  have CG := Lib.hid (fun W => Rc.grow_any ax1 ay1 ax2 ay2 x1 y1 x2 y2 W hra hr)
  have CA := Lib.hid (fun W => area_any ax1 ay1 ax2 ay2 W hra)
  obtain ⟨gv, hgv⟩ : ∃ z, z = areaI (mn ax1 x1) (mn ay1 y1) (mx ax2 x2) (mx ay2 y2) - areaI ax1 ay1 ax2 ay2 := ⟨_, rfl⟩
  obtain ⟨av, hav⟩ : ∃ z, z = areaI ax1 ay1 ax2 ay2 := ⟨_, rfl⟩
  rw [← hgv] at CG
  rw [← hav] at CA
  have h100 := hl.1
  obtain ⟨n, hn⟩ : ∃ n, n = l.length := ⟨_, rfl⟩
  rw [← hn] at hk h100 CO0 ⊢
  clear hl hn hgv hav hra hr
  unfold rv at CO0 ⊢
  dsimp only at c0 c1 c2 c3 CO0 ⊢
  obtain ⟨v, hv⟩ : ∃ v, v = (w.alloc (.cells #[.int .i64 x1, .int .i64 y1, .int .i64 x2, .int .i64 y2] 26)).alloc (.cells #[.int .u64 0, .int .u64 0, .int .i64 0, .int .i64 0] 149) := ⟨_, rfl⟩
  have hvs : (w.alloc (.cells #[.int .i64 x1, .int .i64 y1, .int .i64 x2, .int .i64 y2] 26)).alloc (.cells #[.int .u64 0, .int .u64 0, .int .i64 0, .int .i64 0] 149) = v := hv.symm
  have BV := Lib.hid (show Below w.heap.size w v by rw [hv]; exact below2 w _ _)
  have SV : w.heap.size + 1 < v.heap.size := by rw [hv]; simp
  have HS : Hid (∀ W, Below v.heap.size v W → W.cell? ⟨b, o + k * 4, none⟩ = some (.int .i64 ax1) ∧ W.cell? ⟨b, o + k * 4 + 1, none⟩ = some (.int .i64 ay1) ∧ W.cell? ⟨b, o + k * 4 + 2, none⟩ = some (.int .i64 ax2) ∧ W.cell? ⟨b, o + k * 4 + 3, none⟩ = some (.int .i64 ay2) ∧ W.cell? ⟨w.heap.size, 0, none⟩ = some (.int .i64 x1) ∧ W.cell? ⟨w.heap.size, 1, none⟩ = some (.int .i64 y1) ∧ W.cell? ⟨w.heap.size, 2, none⟩ = some (.int .i64 x2) ∧ W.cell? ⟨w.heap.size, 3, none⟩ = some (.int .i64 y2) ∧ Below v.heap.size v W) := Lib.hid fun W hB => by
    have q1 : ∀ x, W.cell? ⟨w.heap.size, x, none⟩ = v.cell? ⟨w.heap.size, x, none⟩ := fun x => World.cell?_of_block (w := v) (w' := W) (a := ⟨w.heap.size, x, none⟩) (hB.block w.heap.size (by omega))
    have q2 : ∀ x, W.cell? ⟨b, x, none⟩ = w.cell? ⟨b, x, none⟩ := fun x => World.cell?_of_block (w := w) (w' := W) (a := ⟨b, x, none⟩) ((BV.out.trans (hB.mono BV.out.size)).block b hb)
    simp only [q1, q2]
    refine ⟨c0, c1, c2, c3, ?_, ?_, ?_, ?_, hB⟩ <;> rw [hv] <;> simp
  have CO1 : Hid (Co v (w.heap.size + 1) 0 0 0 0) := Lib.hid (by
    have := Co.new (w.alloc (.cells #[.int .i64 x1, .int .i64 y1, .int .i64 x2, .int .i64 y2] 26)) 0 0 0 0 149
    rw [World.size_alloc] at this
    rw [hv]; exact this)
  have HV := Lib.hid hvs
  clear hv hvs c0 c1 c2 c3
  go_enter Tryz.func104, Tryz.ntmps104
  go_wp2_with fail
  rw [HV.out]
  go_cut [9] from 10 to 21 (fun s9 wx => CoC v s9 wx)
  case first =>
    refine wp_region_held_drew (S := (fun W => W.cell? ⟨b, o + k * 4, none⟩ = some (.int .i64 ax1) ∧ W.cell? ⟨b, o + k * 4 + 1, none⟩ = some (.int .i64 ay1) ∧ W.cell? ⟨b, o + k * 4 + 2, none⟩ = some (.int .i64 ax2) ∧ W.cell? ⟨b, o + k * 4 + 3, none⟩ = some (.int .i64 ay2) ∧ W.cell? ⟨w.heap.size, 0, none⟩ = some (.int .i64 x1) ∧ W.cell? ⟨w.heap.size, 1, none⟩ = some (.int .i64 y1) ∧ W.cell? ⟨w.heap.size, 2, none⟩ = some (.int .i64 x2) ∧ W.cell? ⟨w.heap.size, 3, none⟩ = some (.int .i64 y2) ∧ Below v.heap.size v W)) (by kernel_rfl) (HS.out _ (Below.drew (Below.refl _ _))) (fun hHeld => ?_)
    refine wpAnyH_take (i := 0) (v := ?v0) rfl (by kernel_rfl) (by kernel_rfl) (by kernel_rfl) (fun _ _ _ h => h) (Or.inl ⟨by rfl, ?y0⟩) hHeld ?r0
    case y0 => (intro W hSw; simp only [List.getElem_toArray, List.getElem_cons_zero]; go_simp; try (with_reducible rfl))
    simp only [List.getElem_toArray, List.getElem_cons_zero, Act.put, List.setIfInBounds_toArray, List.set_cons_zero, List.set_cons_succ]
    refine wpAnyH_take (i := 1) (v := ?v1) rfl (by kernel_rfl) (by kernel_rfl) (by kernel_rfl) (fun _ _ _ h => h) (Or.inl ⟨by rfl, ?y1⟩) hHeld ?r1
    case y1 => (intro W hSw; simp only [List.getElem_toArray, List.getElem_cons_succ, List.getElem_cons_zero]; go_simp; try (with_reducible rfl))
    simp only [List.getElem_toArray, List.getElem_cons_succ, List.getElem_cons_zero, Act.put, List.setIfInBounds_toArray, List.set_cons_zero, List.set_cons_succ]
    refine wpAnyH_take (i := 2) (v := ?v2) rfl (by kernel_rfl) (by kernel_rfl) (by kernel_rfl) (fun _ _ _ h => h) (Or.inl ⟨by rfl, ?y2⟩) hHeld ?r2
    case y2 => (intro W hSw; simp only [List.getElem_toArray, List.getElem_cons_succ, List.getElem_cons_zero]; go_simp; try (with_reducible rfl))
    simp only [List.getElem_toArray, List.getElem_cons_succ, List.getElem_cons_zero, Act.put, List.setIfInBounds_toArray, List.set_cons_zero, List.set_cons_succ]
    refine wpAnyH_take (i := 3) (v := ?v3) rfl (by kernel_rfl) (by kernel_rfl) (by kernel_rfl) (fun _ _ _ h => h) (Or.inl ⟨by rfl, ?y3⟩) hHeld ?r3
    case y3 => (intro W hSw; simp only [List.getElem_toArray, List.getElem_cons_succ, List.getElem_cons_zero]; go_simp; try (with_reducible rfl))
    simp only [List.getElem_toArray, List.getElem_cons_succ, List.getElem_cons_zero, Act.put, List.setIfInBounds_toArray, List.set_cons_zero, List.set_cons_succ]
    refine wpAnyH_take (i := 4) (v := ?v4) rfl (by kernel_rfl) (by kernel_rfl) (by kernel_rfl) (fun _ _ _ h => h) (Or.inl ⟨by rfl, ?y4⟩) hHeld ?r4
    case y4 => (intro W hSw; simp only [List.getElem_toArray, List.getElem_cons_succ, List.getElem_cons_zero]; go_simp; try (with_reducible rfl))
    simp only [List.getElem_toArray, List.getElem_cons_succ, List.getElem_cons_zero, Act.put, List.setIfInBounds_toArray, List.set_cons_zero, List.set_cons_succ]
    refine wpAnyH_take (i := 6) (v := ?v6) rfl (by kernel_rfl) (by kernel_rfl) (by kernel_rfl) (fun _ _ _ h => h) (Or.inl ⟨by rfl, ?y6⟩) hHeld ?r6
    case y6 => (intro W hSw; simp only [List.getElem_toArray, List.getElem_cons_succ, List.getElem_cons_zero]; go_simp; try (with_reducible rfl))
    simp only [List.getElem_toArray, List.getElem_cons_succ, List.getElem_cons_zero, Act.put, List.setIfInBounds_toArray, List.set_cons_zero, List.set_cons_succ]
    refine wpAnyH_take (i := 7) (v := ?v7) rfl (by kernel_rfl) (by kernel_rfl) (by kernel_rfl) (fun _ _ _ h => h) (Or.inl ⟨by rfl, ?y7⟩) hHeld ?r7
    case y7 => (intro W hSw; simp only [List.getElem_toArray, List.getElem_cons_succ, List.getElem_cons_zero]; go_simp; try (with_reducible rfl))
    simp only [List.getElem_toArray, List.getElem_cons_succ, List.getElem_cons_zero, Act.put, List.setIfInBounds_toArray, List.set_cons_zero, List.set_cons_succ]
    refine wpAnyH_take (i := 8) (v := ?v8) rfl (by kernel_rfl) (by kernel_rfl) (by kernel_rfl) (fun _ _ _ h => h) (Or.inl ⟨by rfl, ?y8⟩) hHeld ?r8
    case y8 => (intro W hSw; simp only [List.getElem_toArray, List.getElem_cons_succ, List.getElem_cons_zero]; go_simp; try (with_reducible rfl))
    simp only [List.getElem_toArray, List.getElem_cons_succ, List.getElem_cons_zero, Act.put, List.setIfInBounds_toArray, List.set_cons_zero, List.set_cons_succ]
    refine wpAnyH_take (i := 9) (v := ?v9) rfl (by kernel_rfl) (by kernel_rfl) (by kernel_rfl) (fun _ _ _ h => h) (Or.inl ⟨by rfl, ?y9⟩) hHeld ?r9
    case y9 => (intro W hSw; simp only [List.getElem_toArray, List.getElem_cons_succ, List.getElem_cons_zero]; go_simp; try (with_reducible rfl))
    simp only [List.getElem_toArray, List.getElem_cons_succ, List.getElem_cons_zero, Act.put, List.setIfInBounds_toArray, List.set_cons_zero, List.set_cons_succ]
    refine wpAnyH_ready (rs := [5, 12]) (by kernel_rfl) (by simp) (AllReadyH.cons rfl (fun K hK => ?_) (AllReadyH.cons rfl (fun K hK => ?_) AllReadyH.nil))
    · simp only [List.getElem_toArray, List.getElem_cons_succ, List.getElem_cons_zero]
      go_simp
      go_at_call 120; refine (CG.out _).mono ?_; rintro e w5 ⟨rfl, hb1⟩
      try go_wp2_with fail
      refine hK.out _ _ (by exact HS.out _ (hHeld.2.2.2.2.2.2.2.2.trans (hb1.mono hHeld.2.2.2.2.2.2.2.2.size))) (fun hHeld1 => ?_)
      clear hK K hHeld hb1
      have hHeld := hHeld1; clear hHeld1
      try simp only [List.getElem_toArray, List.getElem_cons_succ, List.getElem_cons_zero, Act.put, List.setIfInBounds_toArray, List.set_cons_zero, List.set_cons_succ]
      refine wpAnyH_ready (rs := [10, 12]) (by kernel_rfl) (by simp) (AllReadyH.cons rfl (fun K hK => ?_) (AllReadyH.cons rfl (fun K hK => ?_) AllReadyH.nil))
      · simp only [List.getElem_toArray, List.getElem_cons_succ, List.getElem_cons_zero]
        go_simp
        go_at_call 112; refine (CA.out _).mono ?_; rintro e w10 ⟨rfl, hb1⟩
        try go_wp2_with fail
        refine hK.out _ _ (by exact HS.out _ (hHeld.2.2.2.2.2.2.2.2.trans (hb1.mono hHeld.2.2.2.2.2.2.2.2.size))) (fun hHeld1 => ?_)
        clear hK K hHeld hb1
        have hHeld := hHeld1; clear hHeld1
        try simp only [List.getElem_toArray, List.getElem_cons_succ, List.getElem_cons_zero, Act.put, List.setIfInBounds_toArray, List.set_cons_zero, List.set_cons_succ]
        refine wpAnyH_take (i := 11) (v := ?vt111) rfl (by kernel_rfl) (by kernel_rfl) (by kernel_rfl) (fun _ _ _ h => h) (Or.inl ⟨by rfl, ?yt111⟩) hHeld ?rt111
        case yt111 => (intro W hSw; simp only [List.getElem_toArray, List.getElem_cons_succ, List.getElem_cons_zero]; go_simp; try (with_reducible rfl))
        simp only [List.getElem_toArray, List.getElem_cons_succ, List.getElem_cons_zero, Act.put, List.setIfInBounds_toArray, List.set_cons_zero, List.set_cons_succ]
        refine wpAnyH_ready (rs := [12]) (by kernel_rfl) (by simp) (AllReadyH.cons rfl (fun K hK => ?_) AllReadyH.nil)
        simp only [List.getElem_toArray, List.getElem_cons_succ, List.getElem_cons_zero]
        go_simp
        have BP := Lib.hid hHeld.2.2.2.2.2.2.2.2
        have BA := hHeld.2.2.2.2.2.2.2.2.alloc hHeld.2.2.2.2.2.2.2.2.size (.cells #[.int .u64 0, .int .u64 0, .int .i64 0, .int .i64 0] 149)
        have CO := Lib.hid (Co.new w10 0 0 0 0 149)
        refine hK.out _ _ (by exact HS.out _ BA) (fun hHeld1 => ?_)
        clear hK K hHeld BA
        have hHeld := hHeld1; clear hHeld1
        try simp only [List.getElem_toArray, List.getElem_cons_succ, List.getElem_cons_zero, Act.put, List.setIfInBounds_toArray, List.set_cons_zero, List.set_cons_succ]
        obtain ⟨d0, d1, d2, d3, f0, f1, f2, f3⟩ := CO.out
        have BH := Lib.hid hHeld.2.2.2.2.2.2.2.2
        refine wpAnyH_ready (rs := [13]) (by kernel_rfl) (by simp) (AllReadyH.cons rfl (fun K hK => ?_) AllReadyH.nil)
        simp only [List.getElem_toArray, List.getElem_cons_succ, List.getElem_cons_zero]
        go_simp
        refine hK.out _ _ (by exact HS.out _ (BP.out.alloc BP.out.size _)) (fun hHeld1 => ?_)
        clear hK K hHeld hHeld1 d0 d1 d2 d3 f0 f1 f2 f3
        refine wpAnyH_done (by kernel_rfl) ?_ _
        go_wp2_with fail
        go_meet
        case rel => exact ⟨_, 0, 0, gv, av, rfl, BP.out.size, Co.new w10 _ _ _ _ _, BP.out.alloc BP.out.size _⟩
      · simp only [List.getElem_toArray, List.getElem_cons_succ, List.getElem_cons_zero]
        go_simp
        have BP := Lib.hid hHeld.2.2.2.2.2.2.2.2
        have BA := hHeld.2.2.2.2.2.2.2.2.alloc hHeld.2.2.2.2.2.2.2.2.size (.cells #[.int .u64 0, .int .u64 0, .int .i64 0, .int .i64 0] 149)
        have CO := Lib.hid (Co.new w5 0 0 0 0 149)
        refine hK.out _ _ (by exact HS.out _ BA) (fun hHeld1 => ?_)
        clear hK K hHeld BA
        have hHeld := hHeld1; clear hHeld1
        try simp only [List.getElem_toArray, List.getElem_cons_succ, List.getElem_cons_zero, Act.put, List.setIfInBounds_toArray, List.set_cons_zero, List.set_cons_succ]
        refine wpAnyH_ready (rs := [10]) (by kernel_rfl) (by simp) (AllReadyH.cons rfl (fun K hK => ?_) AllReadyH.nil)
        simp only [List.getElem_toArray, List.getElem_cons_succ, List.getElem_cons_zero]
        go_simp
        go_at_call 112; refine (CA.out _).mono ?_; rintro e w10 ⟨rfl, hb1⟩
        try go_wp2_with fail
        refine hK.out _ _ (by exact HS.out _ (hHeld.2.2.2.2.2.2.2.2.trans (hb1.mono hHeld.2.2.2.2.2.2.2.2.size))) (fun hHeld1 => ?_)
        have CO := Lib.hid (CO.out.later hb1)
        clear hK K hHeld hb1
        have hHeld := hHeld1; clear hHeld1
        try simp only [List.getElem_toArray, List.getElem_cons_succ, List.getElem_cons_zero, Act.put, List.setIfInBounds_toArray, List.set_cons_zero, List.set_cons_succ]
        refine wpAnyH_take (i := 11) (v := ?vt211) rfl (by kernel_rfl) (by kernel_rfl) (by kernel_rfl) (fun _ _ _ h => h) (Or.inl ⟨by rfl, ?yt211⟩) hHeld ?rt211
        case yt211 => (intro W hSw; simp only [List.getElem_toArray, List.getElem_cons_succ, List.getElem_cons_zero]; go_simp; try (with_reducible rfl))
        simp only [List.getElem_toArray, List.getElem_cons_succ, List.getElem_cons_zero, Act.put, List.setIfInBounds_toArray, List.set_cons_zero, List.set_cons_succ]
        obtain ⟨d0, d1, d2, d3, f0, f1, f2, f3⟩ := CO.out
        have BH := Lib.hid hHeld.2.2.2.2.2.2.2.2
        refine wpAnyH_ready (rs := [13]) (by kernel_rfl) (by simp) (AllReadyH.cons rfl (fun K hK => ?_) AllReadyH.nil)
        simp only [List.getElem_toArray, List.getElem_cons_succ, List.getElem_cons_zero]
        go_simp
        refine hK.out _ _ (by exact HS.out _ (set4_below BH.out (BP.out.size) _ _ _ _)) (fun hHeld1 => ?_)
        clear hK K hHeld hHeld1 d0 d1 d2 d3 f0 f1 f2 f3
        refine wpAnyH_done (by kernel_rfl) ?_ _
        go_wp2_with fail
        go_meet
        case rel => exact ⟨_, 0, 0, gv, av, rfl, BP.out.size, CO.out.set _ _ _ _, set4_below BH.out (BP.out.size) _ _ _ _⟩
    · simp only [List.getElem_toArray, List.getElem_cons_succ, List.getElem_cons_zero]
      go_simp
      have BP := Lib.hid hHeld.2.2.2.2.2.2.2.2
      have BA := hHeld.2.2.2.2.2.2.2.2.alloc hHeld.2.2.2.2.2.2.2.2.size (.cells #[.int .u64 0, .int .u64 0, .int .i64 0, .int .i64 0] 149)
      have CO := Lib.hid (Co.new v 0 0 0 0 149)
      refine hK.out _ _ (by exact HS.out _ BA) (fun hHeld1 => ?_)
      clear hK K hHeld BA
      have hHeld := hHeld1; clear hHeld1
      try simp only [List.getElem_toArray, List.getElem_cons_succ, List.getElem_cons_zero, Act.put, List.setIfInBounds_toArray, List.set_cons_zero, List.set_cons_succ]
      refine wpAnyH_ready (rs := [5]) (by kernel_rfl) (by simp) (AllReadyH.cons rfl (fun K hK => ?_) AllReadyH.nil)
      simp only [List.getElem_toArray, List.getElem_cons_succ, List.getElem_cons_zero]
      go_simp
      go_at_call 120; refine (CG.out _).mono ?_; rintro e w5 ⟨rfl, hb1⟩
      try go_wp2_with fail
      refine hK.out _ _ (by exact HS.out _ (hHeld.2.2.2.2.2.2.2.2.trans (hb1.mono hHeld.2.2.2.2.2.2.2.2.size))) (fun hHeld1 => ?_)
      have CO := Lib.hid ((Co.drewd CO.out).later hb1)
      clear hK K hHeld hb1
      have hHeld := hHeld1; clear hHeld1
      try simp only [List.getElem_toArray, List.getElem_cons_succ, List.getElem_cons_zero, Act.put, List.setIfInBounds_toArray, List.set_cons_zero, List.set_cons_succ]
      refine wpAnyH_ready (rs := [10]) (by kernel_rfl) (by simp) (AllReadyH.cons rfl (fun K hK => ?_) AllReadyH.nil)
      simp only [List.getElem_toArray, List.getElem_cons_succ, List.getElem_cons_zero]
      go_simp
      go_at_call 112; refine (CA.out _).mono ?_; rintro e w10 ⟨rfl, hb1⟩
      try go_wp2_with fail
      refine hK.out _ _ (by exact HS.out _ (hHeld.2.2.2.2.2.2.2.2.trans (hb1.mono hHeld.2.2.2.2.2.2.2.2.size))) (fun hHeld1 => ?_)
      have CO := Lib.hid (CO.out.later hb1)
      clear hK K hHeld hb1
      have hHeld := hHeld1; clear hHeld1
      try simp only [List.getElem_toArray, List.getElem_cons_succ, List.getElem_cons_zero, Act.put, List.setIfInBounds_toArray, List.set_cons_zero, List.set_cons_succ]
      refine wpAnyH_take (i := 11) (v := ?vt311) rfl (by kernel_rfl) (by kernel_rfl) (by kernel_rfl) (fun _ _ _ h => h) (Or.inl ⟨by rfl, ?yt311⟩) hHeld ?rt311
      case yt311 => (intro W hSw; simp only [List.getElem_toArray, List.getElem_cons_succ, List.getElem_cons_zero]; go_simp; try (with_reducible rfl))
      simp only [List.getElem_toArray, List.getElem_cons_succ, List.getElem_cons_zero, Act.put, List.setIfInBounds_toArray, List.set_cons_zero, List.set_cons_succ]
      obtain ⟨d0, d1, d2, d3, f0, f1, f2, f3⟩ := CO.out
      have BH := Lib.hid hHeld.2.2.2.2.2.2.2.2
      refine wpAnyH_ready (rs := [13]) (by kernel_rfl) (by simp) (AllReadyH.cons rfl (fun K hK => ?_) AllReadyH.nil)
      simp only [List.getElem_toArray, List.getElem_cons_succ, List.getElem_cons_zero]
      go_simp
      refine hK.out _ _ (by exact HS.out _ (set4_below BH.out (Nat.le_refl _) _ _ _ _)) (fun hHeld1 => ?_)
      clear hK K hHeld hHeld1 d0 d1 d2 d3 f0 f1 f2 f3
      refine wpAnyH_done (by kernel_rfl) ?_ _
      go_wp2_with fail
      go_meet
      case rel => exact ⟨_, 0, 0, gv, av, rfl, Nat.le_refl _, CO.out.set _ _ _ _, set4_below BH.out (Nat.le_refl _) _ _ _ _⟩
  case rest =>
    obtain ⟨g, h, lo, p, q, rfl, hg, hC, hB⟩ := hcut
    have HB := Lib.hid hB
    have HC := Lib.hid hC
    obtain ⟨-, -, -, -, r0, r1, r2, r3, -⟩ := HS.out _ hB
    have W1 := Lib.hid (CO1.out.below hB SV)
    have BW := Lib.hid (BV.out.trans (hB.mono BV.out.size))
    clear hB hC HS
    cases f with
    | false =>
      obtain ⟨d0, d1, d2, d3, _⟩ := HC.out
      obtain ⟨e0, e1, e2, e3, f0, f1, f2, f3⟩ := W1.out
      go_wp2_with fail
      have WN := W1.out.set h lo p q
      have BN := Lib.hid (set4_below BW.out (Nat.le_succ _) (.int .u64 h) (.int .u64 lo) (.int .i64 p) (.int .i64 q))
      obtain ⟨a0, a1, a2, a3, -⟩ := WN
      clear d0 d1 d2 d3 e0 e1 e2 e3 f0 f1 f2 f3 r0 r1 r2 r3 W1 HC CO1
      refine bodyPost_ret (v := cv h lo p q) ?hv rfl ?hr
      case hv => simp [results, Tryz.results104, go_sem, cv, *]
      case hr => exact ⟨h, lo, p, q, rfl, BN.out⟩
    | true =>
      go_wp2_with fail
      refine (CO0.out _ BW.out).mono ?_
      rintro e w3 ⟨h2, lo2, -, rfl, hb1⟩
      unfold sv
      have HC3 := Lib.hid (HC.out.later hb1)
      have W3 := Lib.hid (W1.out.later hb1)
      have B3 := Lib.hid (BW.out.trans (hb1.mono BW.out.size))
      clear hb1 HC W1 r0 r1 r2 r3
      have gne : g ≠ w.heap.size + 1 := by omega
      have hgw : w.heap.size ≤ g := by have := BV.out.size; omega
      have HC4 := Lib.hid (HC3.out.set2 h2 lo2)
      have BB := Lib.hid ((B3.out.setCell (p := ⟨g, 0, none⟩) hgw (.int .u64 h2)).setCell (p := ⟨g, 1, none⟩) hgw (.int .u64 lo2))
      have W4 := Lib.hid (Co.far2 W3.out gne (.int .u64 h2) (.int .u64 lo2))
      obtain ⟨d0, d1, d2, d3, g0, g1, g2, g3⟩ := HC3.out
      obtain ⟨e0, e1, e2, e3, f0, f1, f2, f3⟩ := W3.out
      go_wp2_with fail
      have WN := W4.out.set h2 lo2 p q
      have BN := Lib.hid (set4_below BB.out (Nat.le_succ _) (.int .u64 h2) (.int .u64 lo2) (.int .i64 p) (.int .i64 q))
      obtain ⟨a0, a1, a2, a3, -⟩ := WN
      clear d0 d1 d2 d3 g0 g1 g2 g3 e0 e1 e2 e3 f0 f1 f2 f3 W3 W4 HC3 HC4 B3 BB CO1
      refine bodyPost_ret (v := cv h2 lo2 p q) ?hv rfl ?hr
      case hv => simp [results, Tryz.results104, go_sem, cv, *]
      case hr => exact ⟨h2, lo2, p, q, rfl, BN.out⟩
end Go.Proofs.YtobkgamcjfjghaaGreat.Rs
/-
  Contract of package rsplit's Choose: a place of the list. Memory that was there is left as it was.
-/
namespace Go.Proofs.YtobkgamcjfjghaaGreat.Rs
open Go.RowKit Go.Proofs.YtobkgamcjfjghaaGreat.Pt Go.Proofs.YtobkgamcjfjghaaGreat.Rc Go.Proofs.YtobkgamcjfjghaaGreat.Pts
set_option linter.unusedVariables false
set_option linter.unusedSimpArgs false
set_option maxHeartbeats 4000000
set_option maxRecDepth 100000
def ChR (w : World) (g n : Nat) (r : R4) (v8 v10 : Value) (wr : World) : Prop := ∃ (p i : Nat) (h lo a b : Int), v8 = .int .i64 (p : Int) ∧ v10 = .int .i64 (i : Int) ∧ p < n ∧ 1 ≤ i ∧ i ≤ n ∧ Hid (Co wr g h lo a b) ∧ Hid (Rc4 wr w.heap.size r.x1 r.y1 r.x2 r.y2) ∧ Hid (Below w.heap.size w wr)
theorem choose_any (a : Option Addr) (c : Nat) (l : List R4) (r : R4) (f : Bool) (w : World) (hl : RsAt w w.heap.size a l) (h0 : 0 < l.length) (hr : may4 r) :
    Calls Tryz.prog 81 #[.slice a l.length c, rv r, .bool f] w fun e w' => ∃ p : Nat, p < l.length ∧ e = .returned (.tuple #[.int .i64 (p : Int), .nilIface]) ∧ Below w.heap.size w w' := by
  have CK := Lib.hid (fun W (hb : Below w.heap.size w W) k (hk : k < l.length) => costOf_any a c k l r f W ((hl.later hb).wide hb.size) hk hr)
  have CM := Lib.hid (fun W (hb : Below w.heap.size w W) => rsmay_any a c l W ((hl.later hb).wide hb.size))
  have h100 := hl.1
  obtain ⟨n, hn⟩ : ∃ n, n = l.length := ⟨_, rfl⟩
  rw [← hn] at h0 h100 CK CM ⊢
  clear hl hn
  obtain ⟨x1, y1, x2, y2⟩ := r
  have CR := Lib.hid (fun W => rmay_any x1 y1 x2 y2 W)
  have hm : rmayB x1 y1 x2 y2 = true := hr
  rw [hm] at CR
  clear hm hr
  unfold rv at CK ⊢
  dsimp only at CK ⊢
  have R0 := Lib.hid (Rc4.new w x1 y1 x2 y2 26)
  have B0 := Lib.hid ((Below.refl w.heap.size w).alloc (Nat.le_refl _) (.cells #[.int .i64 x1, .int .i64 y1, .int .i64 x2, .int .i64 y2] 26))
  have hn0 : ¬ n = 0 := by omega
  go_enter Tryz.func81, Tryz.ntmps81
  go_wp2_with fail
  refine Calls.mono (CM.out _ B0.out) ?_
  rintro e w1 ⟨rfl, hb1⟩
  have R1 := Lib.hid (R0.out.later hb1)
  have B1 := Lib.hid (B0.out.trans (hb1.mono B0.out.size))
  obtain ⟨d0, d1, d2, d3, _⟩ := R1.out
  clear hb1 R0 B0
  go_wp2_with fail
  refine Calls.mono (CR.out _) ?_
  rintro e w2 ⟨rfl, hb2⟩
  have R2 := Lib.hid (R1.out.later hb2)
  have B2 := Lib.hid (B1.out.trans (hb2.mono B1.out.size))
  clear hb2 R1 B1 d0 d1 d2 d3
  obtain ⟨d0, d1, d2, d3, _⟩ := R2.out
  go_wp2_with fail
  refine Calls.mono (CK.out _ B2.out 0 h0) ?_
  rintro e w3 ⟨ch, cl, ca, cb, rfl, hb3⟩
  unfold cv
  have R3 := Lib.hid (R2.out.later hb3)
  have B3 := Lib.hid (B2.out.trans (hb3.mono B2.out.size))
  clear hb3 R2 B2 d0 d1 d2 d3
  obtain ⟨g, hg⟩ : ∃ g, g = w3.heap.size := ⟨_, rfl⟩
  have R4' := Lib.hid (R3.out.alloc (.cells #[.int .u64 ch, .int .u64 cl, .int .i64 ca, .int .i64 cb] 149))
  have B4 := Lib.hid (B3.out.alloc B3.out.size (.cells #[.int .u64 ch, .int .u64 cl, .int .i64 ca, .int .i64 cb] 149))
  have C4 := Lib.hid (Co.new w3 ch cl ca cb 149)
  have hgw : w.heap.size < g := by rw [hg]; exact R3.out.lt
  rw [← hg] at C4
  have HG := Lib.hid hg
  clear hg R3 B3
  go_wp2_with fail
  rw [← HG.out]
  go_loopw [8, 10, 11] (fun v8 v10 v11 wr => ChR w g n ⟨x1, y1, x2, y2⟩ v8 v10 wr) (fun _ v10 _ _ => n - (intOf v10).toNat)
  case atStart => exact ⟨0, 1, ch, cl, ca, cb, rfl, rfl, h0, Nat.le_refl _, h0, C4, R4', B4⟩
  case round =>
    clear R4' B4 C4
    obtain ⟨p, i, h, lo, sa, sb, rfl, rfl, hp, hi1, hi, HC, HR, HB⟩ := hrel
    by_cases hlt : i < n
    · have hlz : (i : Int) < (n : Int) := by omega
      obtain ⟨d0, d1, d2, d3, _⟩ := HR.out
      dsimp only at d0 d1 d2 d3
      go_wp2_with fail
      refine Calls.mono (CK.out _ HB.out i hlt) ?_
      rintro e w5 ⟨kh, kl, ka, kb, rfl, hb5⟩
      unfold cv
      have HR5 := Lib.hid ((HR.out.later hb5).alloc (.cells #[.int .u64 kh, .int .u64 kl, .int .i64 ka, .int .i64 kb] 149))
      have HB5 := Lib.hid ((HB.out.trans (hb5.mono HB.out.size)).alloc (HB.out.trans (hb5.mono HB.out.size)).size (.cells #[.int .u64 kh, .int .u64 kl, .int .i64 ka, .int .i64 kb] 149))
      have HC5 := Lib.hid (((HC.out.later hb5).later ((Below.refl w5.heap.size w5).alloc (Nat.le_refl _) (.cells #[.int .u64 kh, .int .u64 kl, .int .i64 ka, .int .i64 kb] 149))))
      have HN5 := Lib.hid (Co.new w5 kh kl ka kb 149)
      have HC5a := Lib.hid (HC.out.later hb5)
      clear hb5 d0 d1 d2 d3 HR HB HC
      obtain ⟨c0, c1, c2, c3, f0, f1, f2, f3⟩ := HC5.out
      have hne : ¬ g = w5.heap.size := by have := HC5a.out.lt; omega
      go_wp2_with fail
      refine (costs_any kh kl ka kb h lo sa sb _).mono ?_
      rintro e w6 ⟨m6, rfl, hb6⟩
      have HR6 := Lib.hid (HR5.out.later hb6)
      have HB6 := Lib.hid (HB5.out.trans (hb6.mono HB5.out.size))
      have HC6 := Lib.hid (HC5.out.later hb6)
      have HN6 := Lib.hid (HN5.out.later hb6)
      clear hb6 c0 c1 c2 c3 f0 f1 f2 f3 HR5 HB5 HC5 HN5
      obtain ⟨c0, c1, c2, c3, f0, f1, f2, f3⟩ := HC6.out
      obtain ⟨e0, e1, e2, e3, _⟩ := HN6.out
      have gne : g ≠ w.heap.size := by omega
      have RN := Lib.hid (Rc4.set4 HR6.out gne (.int .u64 kh) (.int .u64 kl) (.int .i64 ka) (.int .i64 kb))
      have BN := Lib.hid (set4_below HB6.out (Nat.le_of_lt hgw) (.int .u64 kh) (.int .u64 kl) (.int .i64 ka) (.int .i64 kb))
      have CN := Lib.hid (HC6.out.set kh kl ka kb)
      go_wp2_with fail
      · go_region
        all_goals go_wp2_with fail
        all_goals go_roundw
        all_goals first
          | exact ⟨i, i + 1, kh, kl, ka, kb, rfl, by go_num, hlt, by omega, by omega, Lib.hid (Co.drewd CN.out), Lib.hid (Rc4.drew RN.out), Lib.hid (Below.drew BN.out)⟩
          | exact ⟨i, i + 1, kh, kl, ka, kb, rfl, by go_num, hlt, by omega, by omega, CN, RN, BN⟩
          | (simp [intOf]; omega)
          | trace_state
      · go_roundw
        case rel => exact ⟨p, i + 1, h, lo, sa, sb, rfl, by go_num, hp, by omega, by omega, HC6, HR6, HB6⟩
        case measure => simp [intOf]; omega
    · have hlz : ¬ (i : Int) < (n : Int) := by omega
      go_wp2_with fail
      refine bodyPost_ret (v := .tuple #[.int .i64 (p : Int), .nilIface]) (by simp [results, Tryz.results81, go_sem, *]) rfl ⟨p, hp, rfl, HB.out⟩
end Go.Proofs.YtobkgamcjfjghaaGreat.Rs
/-
  Contract of choose of an R*-tree's part: one of its kids. Memory that was there is left as it was.
-/
namespace Go.Proofs.YtobkgamcjfjghaaGreat.Rt
open Go.RowKit Go.Proofs.YtobkgamcjfjghaaGreat.Pt Go.Proofs.YtobkgamcjfjghaaGreat.Rc Go.Proofs.YtobkgamcjfjghaaGreat.Rs Go.Proofs.YtobkgamcjfjghaaGreat.Pts
set_option linter.unusedVariables false
set_option linter.unusedSimpArgs false
set_option maxRecDepth 100000

set_option maxHeartbeats 2000000 in
theorem pchoose_any (n x : Nat) (d dx : Pd) (σ : St) (V : Nat → Value) (w : World) (hM : Mem w σ V) (hd : σ n = some d) (hx : σ x = some dx) (hr : may4 dx.r) (hk : ∀ k ∈ d.kids, ∃ e, σ k = some e ∧ may4 e.r) (h0 : 0 < d.kids.length) (hn : d.kids.length ≤ 20) :
    Calls Tryz.prog 63 #[ptr n, ptr x] w fun e w' => ∃ k, k ∈ d.kids ∧ e = .returned (ptr k) ∧ Below w.heap.size w w' := by
  have C1 := Lib.hid (fun W (h : Below w.heap.size w W) => rects_any n d σ V W (hM.later h) hd hk hn)
  obtain ⟨A0, c, hsv, hc1, hc2, hrow⟩ := (hM.part n d hd).kids
  obtain ⟨z0, -, -, -, -, -, z6⟩ := (hM.part n d hd).cells
  obtain ⟨-, x1, x2, x3, x4, -, -⟩ := (hM.part x dx hx).cells
  obtain ⟨r, er⟩ : ∃ r, r = dx.r := ⟨_, rfl⟩
  rw [← er] at x1 x2 x3 x4 hr
  obtain ⟨lv, elv⟩ : ∃ l, l = d.lvl := ⟨_, rfl⟩
  rw [← elv] at z0
  obtain ⟨q, rfl, hq, hc⟩ := hrow h0
  have HC := Lib.hid hc
  obtain ⟨rs, hrs⟩ : ∃ rs, rs = d.kids.map (rOf σ) := ⟨_, rfl⟩
  rw [← hrs] at C1
  obtain ⟨m, em⟩ : ∃ m, m = d.kids.length := ⟨_, rfl⟩
  have hl : rs.length = m := by rw [hrs, List.length_map, ← em]
  have C2 : Hid (∀ W g f, RsAt W W.heap.size (some ⟨g, 0, none⟩) rs → Calls Tryz.prog 81 #[.slice (some ⟨g, 0, none⟩) m m, .agg #[.int .i64 r.x1, .int .i64 r.y1, .int .i64 r.x2, .int .i64 r.y2], .bool f] W fun e w' => ∃ p : Nat, p < m ∧ e = .returned (.tuple #[.int .i64 (p : Int), .nilIface]) ∧ Below W.heap.size W w') := Lib.hid fun W g f h => by
    have := choose_any (some ⟨g, 0, none⟩) m rs r f W h (by rw [hl]; omega) hr
    rw [hl] at this
    exact this
  rw [hsv, ← em] at z6
  rw [← em] at C1 h0
  have EM := Lib.hid em
  unfold ptr at C1 ⊢
  have HS : Hid (∀ W, Below w.heap.size w W → ((fun W => W.cell? ⟨x, 1, none⟩ = some (.int .i64 r.x1) ∧ W.cell? ⟨x, 2, none⟩ = some (.int .i64 r.y1) ∧ W.cell? ⟨x, 3, none⟩ = some (.int .i64 r.x2) ∧ W.cell? ⟨x, 4, none⟩ = some (.int .i64 r.y2) ∧ W.cell? ⟨n, 0, none⟩ = some (.int .i64 lv) ∧ W.cell? ⟨n, 6, none⟩ = some (.slice (some ⟨q, 0, none⟩) m c) ∧ w.heap.size ≤ W.heap.size ∧ Below w.heap.size w W)) W) := Lib.hid fun W h => ⟨cell_later h x1, cell_later h x2, cell_later h x3, cell_later h x4, cell_later h z0, cell_later h z6, h.size, h⟩
  have HZ := Lib.hid (HS.out w (Below.refl _ _))
  clear hsv hc1 hc2 hq hc hrs em hl er elv hr hk hM z0 z6 x1 x2 x3 x4
  have z := HZ.out
  go_enter Tryz.func63, Tryz.ntmps63
  go_wp2_with fail
  refine wp_region_held_drew (S := (fun W => W.cell? ⟨x, 1, none⟩ = some (.int .i64 r.x1) ∧ W.cell? ⟨x, 2, none⟩ = some (.int .i64 r.y1) ∧ W.cell? ⟨x, 3, none⟩ = some (.int .i64 r.x2) ∧ W.cell? ⟨x, 4, none⟩ = some (.int .i64 r.y2) ∧ W.cell? ⟨n, 0, none⟩ = some (.int .i64 lv) ∧ W.cell? ⟨n, 6, none⟩ = some (.slice (some ⟨q, 0, none⟩) m c) ∧ w.heap.size ≤ W.heap.size ∧ Below w.heap.size w W)) (by kernel_rfl) (HS.out _ (Below.drew (Below.refl _ _))) (fun hHeld => ?_)
  refine wpAnyH_take (i := 0) (v := ?v0) rfl (by kernel_rfl) (by kernel_rfl) (by kernel_rfl) (fun _ _ _ h => h) (Or.inl ⟨by rfl, ?y0⟩) hHeld ?r0
  case y0 => (intro W hSw; simp only [List.getElem_toArray, List.getElem_cons_zero]; go_simp; try (with_reducible rfl))
  simp only [List.getElem_toArray, List.getElem_cons_zero, Act.put, List.setIfInBounds_toArray, List.set_cons_zero, List.set_cons_succ]
  refine wpAnyH_take (i := 2) (v := ?v2) rfl (by kernel_rfl) (by kernel_rfl) (by kernel_rfl) (fun _ _ _ h => h) (Or.inl ⟨by rfl, ?y2⟩) hHeld ?r2
  case y2 => (intro W hSw; simp only [List.getElem_toArray, List.getElem_cons_succ, List.getElem_cons_zero]; go_simp; try (with_reducible rfl))
  simp only [List.getElem_toArray, List.getElem_cons_succ, List.getElem_cons_zero, Act.put, List.setIfInBounds_toArray, List.set_cons_zero, List.set_cons_succ]
  refine wpAnyH_take (i := 3) (v := ?v3) rfl (by kernel_rfl) (by kernel_rfl) (by kernel_rfl) (fun _ _ _ h => h) (Or.inl ⟨by rfl, ?y3⟩) hHeld ?r3
  case y3 => (intro W hSw; simp only [List.getElem_toArray, List.getElem_cons_succ, List.getElem_cons_zero]; go_simp; try (with_reducible rfl))
  simp only [List.getElem_toArray, List.getElem_cons_succ, List.getElem_cons_zero, Act.put, List.setIfInBounds_toArray, List.set_cons_zero, List.set_cons_succ]
  refine wpAnyH_take (i := 4) (v := ?v4) rfl (by kernel_rfl) (by kernel_rfl) (by kernel_rfl) (fun _ _ _ h => h) (Or.inl ⟨by rfl, ?y4⟩) hHeld ?r4
  case y4 => (intro W hSw; simp only [List.getElem_toArray, List.getElem_cons_succ, List.getElem_cons_zero]; go_simp; try (with_reducible rfl))
  simp only [List.getElem_toArray, List.getElem_cons_succ, List.getElem_cons_zero, Act.put, List.setIfInBounds_toArray, List.set_cons_zero, List.set_cons_succ]
  refine wpAnyH_take (i := 5) (v := ?v5) rfl (by kernel_rfl) (by kernel_rfl) (by kernel_rfl) (fun _ _ _ h => h) (Or.inl ⟨by rfl, ?y5⟩) hHeld ?r5
  case y5 => (intro W hSw; simp only [List.getElem_toArray, List.getElem_cons_succ, List.getElem_cons_zero]; go_simp; try (with_reducible rfl))
  simp only [List.getElem_toArray, List.getElem_cons_succ, List.getElem_cons_zero, Act.put, List.setIfInBounds_toArray, List.set_cons_zero, List.set_cons_succ]
  refine wpAnyH_take (i := 6) (v := ?v6) rfl (by kernel_rfl) (by kernel_rfl) (by kernel_rfl) (fun _ _ _ h => h) (Or.inl ⟨by rfl, ?y6⟩) hHeld ?r6
  case y6 => (intro W hSw; simp only [List.getElem_toArray, List.getElem_cons_succ, List.getElem_cons_zero]; go_simp; try (with_reducible rfl))
  simp only [List.getElem_toArray, List.getElem_cons_succ, List.getElem_cons_zero, Act.put, List.setIfInBounds_toArray, List.set_cons_zero, List.set_cons_succ]
  refine wpAnyH_take (i := 7) (v := ?v7) rfl (by kernel_rfl) (by kernel_rfl) (by kernel_rfl) (fun _ _ _ h => h) (Or.inl ⟨by rfl, ?y7⟩) hHeld ?r7
  case y7 => (intro W hSw; simp only [List.getElem_toArray, List.getElem_cons_succ, List.getElem_cons_zero]; go_simp; try (with_reducible rfl))
  simp only [List.getElem_toArray, List.getElem_cons_succ, List.getElem_cons_zero, Act.put, List.setIfInBounds_toArray, List.set_cons_zero, List.set_cons_succ]
  refine wpAnyH_take (i := 8) (v := ?v8) rfl (by kernel_rfl) (by kernel_rfl) (by kernel_rfl) (fun _ _ _ h => h) (Or.inl ⟨by rfl, ?y8⟩) hHeld ?r8
  case y8 => (intro W hSw; simp only [List.getElem_toArray, List.getElem_cons_succ, List.getElem_cons_zero]; go_simp; try (with_reducible rfl))
  simp only [List.getElem_toArray, List.getElem_cons_succ, List.getElem_cons_zero, Act.put, List.setIfInBounds_toArray, List.set_cons_zero, List.set_cons_succ]
  refine wpAnyH_take (i := 9) (v := ?v9) rfl (by kernel_rfl) (by kernel_rfl) (by kernel_rfl) (fun _ _ _ h => h) (Or.inl ⟨by rfl, ?y9⟩) hHeld ?r9
  case y9 => (intro W hSw; simp only [List.getElem_toArray, List.getElem_cons_succ, List.getElem_cons_zero]; go_simp; try (with_reducible rfl))
  simp only [List.getElem_toArray, List.getElem_cons_succ, List.getElem_cons_zero, Act.put, List.setIfInBounds_toArray, List.set_cons_zero, List.set_cons_succ]
  refine wpAnyH_take (i := 10) (v := ?v10) rfl (by kernel_rfl) (by kernel_rfl) (by kernel_rfl) (fun _ _ _ h => h) (Or.inl ⟨by rfl, ?y10⟩) hHeld ?r10
  case y10 => (intro W hSw; simp only [List.getElem_toArray, List.getElem_cons_succ, List.getElem_cons_zero]; go_simp; try (with_reducible rfl))
  simp only [List.getElem_toArray, List.getElem_cons_succ, List.getElem_cons_zero, Act.put, List.setIfInBounds_toArray, List.set_cons_zero, List.set_cons_succ]
  refine wpAnyH_ready (rs := [1]) (by kernel_rfl) (by simp) (AllReadyH.cons rfl (fun K hK => ?_) AllReadyH.nil)
  simp only [List.getElem_toArray, List.getElem_cons_succ, List.getElem_cons_zero]
  go_simp
  (go_at_call 66; refine (C1.out _ hHeld.2.2.2.2.2.2.2).mono ?_; rintro e w1 ⟨g, rfl, hRs, hb1⟩; have HRS := Lib.hid hRs)
  try go_wp2_with fail
  refine hK.out _ _ (by exact HS.out _ (hHeld.2.2.2.2.2.2.2.trans (hb1.mono hHeld.2.2.2.2.2.2.2.size))) (fun hHeld1 => ?_)
  clear hK K hHeld
  have hHeld := hHeld1; clear hHeld1
  try simp only [List.getElem_toArray, List.getElem_cons_succ, List.getElem_cons_zero, Act.put, List.setIfInBounds_toArray, List.set_cons_zero, List.set_cons_succ]
  refine wpAnyH_ready (rs := [11]) (by kernel_rfl) (by simp) (AllReadyH.cons rfl (fun K hK => ?_) AllReadyH.nil)
  simp only [List.getElem_toArray, List.getElem_cons_succ, List.getElem_cons_zero]
  go_simp
  (go_at_call 81; refine (C2.out _ g _ HRS.out).mono ?_; rintro e w2 ⟨pl, hpl, rfl, hb1⟩)
  try go_wp2_with fail
  refine hK.out _ _ (by exact HS.out _ (hHeld.2.2.2.2.2.2.2.trans (hb1.mono hHeld.2.2.2.2.2.2.2.size))) (fun hHeld1 => ?_)
  clear hK K hHeld
  have hHeld := hHeld1; clear hHeld1
  try simp only [List.getElem_toArray, List.getElem_cons_succ, List.getElem_cons_zero, Act.put, List.setIfInBounds_toArray, List.set_cons_zero, List.set_cons_succ]
  refine wpAnyH_take (i := 12) (v := ?v12) rfl (by kernel_rfl) (by kernel_rfl) (by kernel_rfl) (fun _ _ _ h => h) (Or.inl ⟨by rfl, ?y12⟩) hHeld ?r12
  case y12 => (intro W hSw; simp only [List.getElem_toArray, List.getElem_cons_succ, List.getElem_cons_zero]; go_simp; try (with_reducible rfl))
  simp only [List.getElem_toArray, List.getElem_cons_succ, List.getElem_cons_zero, Act.put, List.setIfInBounds_toArray, List.set_cons_zero, List.set_cons_succ]
  refine wpAnyH_take (i := 13) (v := ?v13) rfl (by kernel_rfl) (by kernel_rfl) (by kernel_rfl) (fun _ _ _ h => h) (Or.inl ⟨by rfl, ?y13⟩) hHeld ?r13
  case y13 => (intro W hSw; simp only [List.getElem_toArray, List.getElem_cons_succ, List.getElem_cons_zero]; go_simp; try (with_reducible rfl))
  simp only [List.getElem_toArray, List.getElem_cons_succ, List.getElem_cons_zero, Act.put, List.setIfInBounds_toArray, List.set_cons_zero, List.set_cons_succ]
  refine wpAnyH_take (i := 14) (v := ?v14) rfl (by kernel_rfl) (by kernel_rfl) (by kernel_rfl) (fun _ _ _ h => h) (Or.inl ⟨by rfl, ?y14⟩) hHeld ?r14
  case y14 => (intro W hSw; simp only [List.getElem_toArray, List.getElem_cons_succ, List.getElem_cons_zero]; go_simp; try (with_reducible rfl))
  simp only [List.getElem_toArray, List.getElem_cons_succ, List.getElem_cons_zero, Act.put, List.setIfInBounds_toArray, List.set_cons_zero, List.set_cons_succ]
  refine wpAnyH_take (i := 15) (v := ?v15) rfl (by kernel_rfl) (by kernel_rfl) (by kernel_rfl) (fun _ _ _ h => h) (Or.inl ⟨by rfl, ?y15⟩) hHeld ?r15
  case y15 => (intro W hSw; simp only [List.getElem_toArray, List.getElem_cons_succ, List.getElem_cons_zero]; go_simp; try (with_reducible rfl))
  simp only [List.getElem_toArray, List.getElem_cons_succ, List.getElem_cons_zero, Act.put, List.setIfInBounds_toArray, List.set_cons_zero, List.set_cons_succ]
  refine wpAnyH_take (i := 16) (v := ?v16) rfl (by kernel_rfl) (by kernel_rfl) (by kernel_rfl) (fun _ _ _ h => h) (Or.inl ⟨by rfl, ?y16⟩) hHeld ?r16
  case y16 => (intro W hSw; simp only [List.getElem_toArray, List.getElem_cons_succ, List.getElem_cons_zero]; go_simp; try (with_reducible rfl))
  simp only [List.getElem_toArray, List.getElem_cons_succ, List.getElem_cons_zero, Act.put, List.setIfInBounds_toArray, List.set_cons_zero, List.set_cons_succ]
  refine wpAnyH_done (by kernel_rfl) ?_ _
  have hpk : pl < d.kids.length := by rw [← EM.out]; exact hpl
  obtain ⟨k, hk⟩ : ∃ k, k = d.kids[pl] := ⟨_, rfl⟩
  have c2 := cell_later hHeld.2.2.2.2.2.2.2 (HC.out pl hpk)
  rw [← hk] at c2
  have HK := Lib.hid (show k ∈ d.kids by rw [hk]; exact List.getElem_mem hpk)
  unfold ptr at c2
  have hp0 : (0 : Int) ≤ (pl : Int) := by omega
  have hp1 : (pl : Int) < (m : Int) := by omega
  have BB := Lib.hid hHeld.2.2.2.2.2.2.2
  clear hk z
  go_wp2_with fail
  go_ret
  exact ⟨k, HK.out, rfl, BB.out⟩
end Go.Proofs.YtobkgamcjfjghaaGreat.Rt
/-
  Contract of slices.Reverse at a row of parts. Only the row's own block is written.
-/
namespace Go.Proofs.YtobkgamcjfjghaaGreat.Rt
open Go.RowKit Go.Proofs.YtobkgamcjfjghaaGreat.Pt Go.Proofs.YtobkgamcjfjghaaGreat.Rc Go.Proofs.YtobkgamcjfjghaaGreat.Rs
set_option linter.unusedVariables false
set_option linter.unusedSimpArgs false
set_option maxRecDepth 100000

theorem grown_drew {a b : World} {r : Option Nat} (h : a.grownBy b r) : a.grownBy b.drew r := ⟨h.os, h.tape, h.output, h.size, h.block⟩
/-- What stands at a place behind i swaps. -/
def cnt (l : List Nat) (i t : Nat) : Nat := if t < i ∨ l.length - 1 - i < t then l.getD (l.length - 1 - t) 0 else l.getD t 0
def RvR (w : World) (g : Nat) (l : List Nat) (cap : Nat) (vi vj : Value) (wr : World) : Prop :=
  ∃ (i : Nat) (cur : Array Value), vi = .int .i64 i ∧ vj = .int .i64 ((l.length : Int) - 1 - i) ∧ 2 * i ≤ l.length ∧ Bp wr g cur ∧ cur.size = cap ∧ (∀ t, t < l.length → cur[t]? = some (ptr (cnt l i t))) ∧ w.grownBy wr (some g)
theorem cnt_zero (l : List Nat) {t : Nat} (h : t < l.length) : cnt l 0 t = l.getD t 0 := by
  unfold cnt
  rw [if_neg (by omega)]
theorem cnt_end (l : List Nat) {i t : Nat} (h : t < l.length) (hi : l.length ≤ 2 * i + 1) : cnt l i t = l.getD (l.length - 1 - t) 0 := by
  unfold cnt
  by_cases hc : t < i ∨ l.length - 1 - i < t
  · rw [if_pos hc]
  · rw [if_neg hc, show l.length - 1 - t = t by omega]
set_option maxHeartbeats 2000000 in
theorem reverse_any (g cap : Nat) (l : List Nat) (w : World) (hrow : w.ownsRow 0 61 1 (.slice (some ⟨g, 0, none⟩) l.length cap) l.length (l.map ptr)) (h0 : 0 < l.length) (hn : l.length ≤ 1000000) :
    Calls Tryz.prog 64 #[.slice (some ⟨g, 0, none⟩) l.length cap] w fun e w' => e = .returned (.tuple #[]) ∧ w'.ownsRow 0 61 1 (.slice (some ⟨g, 0, none⟩) l.length cap) l.length (l.reverse.map ptr) ∧ w.grownBy w' (some g) := by
  rcases hrow.2 with ⟨e, _⟩ | ⟨g2, cap2, cur, e, _, hh, hnc, hcm, hcs, htake⟩
  · cases e
  simp only [Value.slice.injEq, Option.some.injEq, Addr.mk.injEq, and_true, true_and] at e
  obtain ⟨rfl, rfl⟩ := e
  have HH := Lib.hid (show Bp w g cur from hh)
  have HCS := Lib.hid (show cur.size = cap by omega)
  have HCUR := Lib.hid (show ∀ t, t < l.length → cur[t]? = some (ptr (cnt l 0 t)) from fun t ht => by
    rw [cnt_zero l ht, ← HH.out.cell t, hrow.cellAt t (by omega), List.getElem?_map, List.getElem?_eq_getElem ht, List.getD_eq_getElem?_getD, List.getElem?_eq_getElem ht]
    rfl)
  obtain ⟨n, en⟩ : ∃ n, n = l.length := ⟨_, rfl⟩
  have EN := Lib.hid en
  rw [← en] at hn hnc h0 ⊢
  have NC := Lib.hid hnc
  have CM := Lib.hid hcm
  clear hrow hh hcs htake en hnc hcm
  have hn' : (n : Int) ≤ 1000000 := by omega
  have h0' : (0 : Int) < (n : Int) := by omega
  go_enter Tryz.func64, Tryz.ntmps64
  go_wp2_with fail
  go_loopw [2, 3] (fun vi vj wr => RvR w g l cap vi vj wr) (fun vi _ _ => n - (intOf vi).toNat)
  case atStart => exact ⟨0, cur, rfl, by rw [← EN.out]; simp, Nat.zero_le _, HH.out, HCS.out, HCUR.out, World.grownBy.refl _ _⟩
  case round =>
    obtain ⟨i, cw, rfl, rfl, hi, k1, k2, k3, hG⟩ := hrel
    rw [← EN.out] at hi k3 ⊢
    have HG := Lib.hid hG
    have K1 := Lib.hid k1
    have K2 := Lib.hid k2
    have K3 := Lib.hid k3
    by_cases hlt : i < n - 1 - i
    · obtain ⟨j, hj⟩ : ∃ j, j = n - 1 - i := ⟨_, rfl⟩
      have ej : (n : Int) - 1 - (i : Int) = (j : Int) := by omega
      have hz : (i : Int) < (j : Int) := by omega
      obtain ⟨x, hx⟩ : ∃ x, x = cnt l i i := ⟨_, rfl⟩
      obtain ⟨y, hy⟩ : ∃ y, y = cnt l i j := ⟨_, rfl⟩
      have c1 : wr.cell? ⟨g, i, none⟩ = some (.pointer (some ⟨x, 0, none⟩)) := by rw [k1.cell, k3 i (by omega), hx]; rfl
      have c2 : wr.cell? ⟨g, j, none⟩ = some (.pointer (some ⟨y, 0, none⟩)) := by rw [k1.cell, k3 j (by omega), hy]; rfl
      have cf := k1.soft
      have HX := Lib.hid (show x = l.getD i 0 by rw [hx]; unfold cnt; rw [if_neg (by have := EN.out; omega)])
      have HY := Lib.hid (show y = l.getD j 0 by rw [hy]; unfold cnt; rw [if_neg (by have := EN.out; omega)])
      have HJ := Lib.hid hj
      have hin : (i : Int) < (n : Int) := by omega
      have hjn : (j : Int) < (n : Int) := by omega
      have hi0 : (0 : Int) ≤ (i : Int) := by omega
      have hj0 : (0 : Int) ≤ (j : Int) := by omega
      have hne : ¬ i = j := by omega
      have hne2 : ¬ j = i := by omega
      rw [ej]
      clear hG k1 k2 k3 hx hy hj
      go_wp2_with fail
      go_region
      all_goals
        go_wp2_with fail
        go_roundw
        case rel =>
          have B1 := (K1.out.set i (ptr y)).set j (ptr x)
          refine ⟨i + 1, _, by go_num, by (have h1 := HJ.out; have h2 := EN.out; (try simp); omega), by have := EN.out; omega, B1, by simp [K2.out], fun t ht => ?_, grown_drew (grown_set' (grown_set' HG.out))⟩
          have hsz := K2.out
          have := NC.out
          have := EN.out
          have hj := HJ.out
          by_cases e2 : t = j
          · subst e2
            rw [Array.getElem?_setIfInBounds_self_of_lt (by simp; omega)]
            congr 2
            rw [HX.out]
            unfold cnt
            rw [if_pos (by omega), show l.length - 1 - t = i by omega]
          · rw [Array.getElem?_setIfInBounds_ne (fun e => e2 e.symm)]
            by_cases e1 : t = i
            · subst e1
              rw [Array.getElem?_setIfInBounds_self_of_lt (by omega)]
              congr 2
              rw [HY.out]
              unfold cnt
              rw [if_pos (by omega), show l.length - 1 - t = j by omega]
            · rw [Array.getElem?_setIfInBounds_ne (fun e => e1 e.symm), K3.out t (by omega)]
              congr 2
              unfold cnt
              by_cases hc : t < i ∨ l.length - 1 - i < t
              · rw [if_pos hc, if_pos (by omega)]
              · rw [if_neg hc, if_neg (by omega)]
        case measure => simp [intOf]; omega
    · have hz : ¬ (i : Int) < (n : Int) - 1 - (i : Int) := by omega
      have HO := Lib.hid (show wr.ownsRow 0 61 1 (.slice (some ⟨g, 0, none⟩) n cap) n (l.reverse.map ptr) from by
        refine ⟨by rw [List.length_map, List.length_reverse, ← EN.out]; omega, Or.inr ⟨g, cap, cw, rfl, Nat.zero_le _, k1, NC.out, CM.out, by omega, ?_⟩⟩
        apply List.ext_getElem?
        intro t
        have := EN.out
        rw [Nat.mul_one, List.getElem?_take, List.getElem?_map]
        by_cases ht : t < n
        · rw [if_pos ht, Array.getElem?_toList, k3 t ht, cnt_end l (by omega) (by omega), List.getElem?_reverse (by omega), List.getD_eq_getElem?_getD, List.getElem?_eq_getElem (by omega)]
          rfl
        · rw [if_neg ht, List.getElem?_eq_none (by rw [List.length_reverse]; omega)]
          rfl)
      clear hG k1 k2 k3
      go_wp2_with fail
      refine bodyPost_end (v := .tuple #[]) (by simp [results, Tryz.results64, go_sem]) rfl ⟨rfl, by first | exact HO.out | (have h := HO.out; rwa [List.map_reverse] at h), HG.out⟩
end Go.Proofs.YtobkgamcjfjghaaGreat.Rt
namespace Go.Proofs.YtobkgamcjfjghaaGreat.Rt
open Go.RowKit Go.Joins Go.Proofs.YtobkgamcjfjghaaGreat.Pt Go.Proofs.YtobkgamcjfjghaaGreat.Rc Go.Proofs.YtobkgamcjfjghaaGreat.Rs
set_option linter.unusedVariables false
set_option linter.unusedSimpArgs false
set_option maxRecDepth 100000

def lvOf (σ : St) (v : Value) : Nat := match v with
  | .pointer (some a) => match σ a.block with
    | some d => d.lvl.toNat
    | none => 0
  | _ => 0
theorem lvOf_ptr {σ : St} {b : Nat} {d : Pd} (h : σ b = some d) : lvOf σ (.pointer (some ⟨b, 0, none⟩)) = d.lvl.toNat := by simp [lvOf, h]
/-- Behind a way down: node b of level h, what lies above it, the way as it was gone. -/
def PfR (w : World) (σ : St) (lo hi rlo hx H root : Nat) (E G : List Nat) (v5 v6 : Value) (wr : World) : Prop :=
  ∃ (h b : Nat) (up : List Nat) (d : Pd) (g c : Nat), v5 = .pointer (some ⟨b, 0, none⟩) ∧ v6 = .slice (some ⟨g, 0, none⟩) (up.length + 1) c ∧ hx ≤ h ∧ Up σ lo hi rlo h b up E G ∧ σ b = some d ∧ d.lvl = (h : Int) ∧ d.kids.length ≤ hi ∧ (1 ≤ h → 1 ≤ d.kids.length) ∧ (h + up.length ≤ 3000 ∧ h + up.length = H ∧ top b up = root) ∧
    wr.ownsRow w.heap.size 61 1 (.slice (some ⟨g, 0, none⟩) (up.length + 1) c) (up.length + 1) ((b :: up).reverse.map ptr) ∧ Below w.heap.size w wr
/-- What pathFor tells. -/
def PfE (w : World) (σ : St) (lo hi rlo hx H root : Nat) (E G : List Nat) (e : Ending) (w' : World) : Prop :=
  ∃ (b : Nat) (up : List Nat) (d : Pd) (g c : Nat), e = .returned (.slice (some ⟨g, 0, none⟩) (up.length + 1) c) ∧ w.heap.size ≤ g ∧ Up σ lo hi rlo hx b up E G ∧ σ b = some d ∧ d.kids.length ≤ hi ∧ (hx + up.length = H ∧ top b up = root) ∧
    w'.ownsRow 0 61 1 (.slice (some ⟨g, 0, none⟩) (up.length + 1) c) (up.length + 1) ((b :: up).map ptr) ∧ Below w.heap.size w w'
theorem Up.kids {σ : St} {lo hi rlo h b : Nat} {up E G : List Nat} {d : Pd} (hu : Up σ lo hi rlo h b up E G) (hd : σ b = some d) : ∀ k ∈ d.kids, Nd σ lo hi h k := by
  obtain ⟨C, LC, d2, hs, h1, h2, h3, _⟩ := hu
  rw [hd] at h1
  cases h1
  exact h3
set_option maxHeartbeats 2000000 in
theorem pathFor_any (t o mb root x : Nat) (dx : Pd) (σ : St) (V : Nat → Value) (lo hi rlo h hx : Nat) (E G : List Nat) (w : World) (hM : Mem w σ V) (hT : TAt w t o mb root) (ht : Tree σ lo hi rlo h root E G) (hl : 1 ≤ lo) (hr : 1 ≤ rlo) (hh : hi ≤ 20) (h3 : h ≤ 2999) (hxx : σ x = some dx) (hlv : dx.lvl = (hx : Int) - 1) (hmay : may4 dx.r) (hxh : hx ≤ h) :
    Calls Tryz.prog 55 #[ptr t, ptr x] w (PfE w σ lo hi rlo hx h root E G) := by
  have HM := Lib.hid hM
  have HT := Lib.hid hT
  obtain ⟨-, -, t2⟩ := hT.cells
  have PX := Lib.hid (hM.part x dx hxx)
  have HLV := Lib.hid hlv
  have HMY := Lib.hid hmay
  have HXX := Lib.hid hxx
  obtain ⟨hu0, d0, hd0, hl0, hk0⟩ := ht.up
  have HR0 := Lib.hid (show PfR w σ lo hi rlo hx h root E G (.pointer (some ⟨root, 0, none⟩)) (.slice (some ⟨w.heap.size, 0, none⟩) 1 1) (w.alloc (.cells #[ptr root] 61)) from by
    refine ⟨h, root, [], d0, w.heap.size, 1, rfl, rfl, hxh, hu0, hd0, hl0, hk0, fun h1 => ?_, ⟨by simp; omega, by simp, rfl⟩, ?_, (Below.refl _ _).alloc (Nat.le_refl _) _⟩
    · obtain ⟨C, LC, d2, hs, k1, k2, k3, k4, _⟩ := hu0
      rw [hd0] at k1
      cases k1
      have := k4 rfl h1
      omega
    · exact World.ownsRow_lit (size := 1) (base := w.heap.size) w #[ptr root] 1 (Nat.le_refl _) (by unfold maxLen; omega) rfl)
  obtain ⟨i0, hi0, hz0, hz1, hz2⟩ := info_parts A.infoPp
  have HHI := Lib.hid hh
  have HLO := Lib.hid hl
  unfold ptr at t2 HR0 ⊢
  clear hM hT ht hxx hlv hmay hu0 hd0 hl0 hk0 hr hh h3 hl
  go_enter Tryz.func55, Tryz.ntmps55
  go_wp2_with fail
  go_loopw [5, 6] (fun v5 v6 wr => PfR w σ lo hi rlo hx h root E G v5 v6 wr) (fun v5 _ _ => lvOf σ v5)
  case atStart => exact HR0.out
  case round =>
    obtain ⟨h', b, up, d, g, c, rfl, rfl, hge, hu, hd, hlv, hkl, hk1, ⟨hbd, hhh, htop⟩, hown, hB⟩ := hrel
    have HHH := Lib.hid (And.intro hhh htop)
    clear hhh htop
    have HU := Lib.hid hu
    have HD := Lib.hid hd
    have HLD := Lib.hid hlv
    have HKL := Lib.hid hkl
    have HBD := Lib.hid hbd
    have HO := Lib.hid hown
    have HB := Lib.hid hB
    have MR := Lib.hid (HM.out.later hB)
    obtain ⟨z0, -, -, -, -, -, -⟩ := (MR.out.part b d hd).cells
    obtain ⟨y0, -, -, -, -, -, -⟩ := (PX.out.later hB).cells
    rw [hlv] at z0
    rw [HLV.out] at y0
    have HW1 := Lib.hid (show wrap64 (hx : Int) = (hx : Int) from by unfold wrap64; omega)
    clear hu hd hlv hkl hown hB HR0
    by_cases hlt : hx < h'
    · have hz : (hx : Int) < (h' : Int) := by omega
      obtain ⟨hn, rfl⟩ : ∃ hn, h' = hn + 1 := ⟨h' - 1, by omega⟩
      have hzn : (hx : Int) < (hn : Int) + 1 := by omega
      have C := Lib.hid (fun W (hW : Below wr.heap.size wr W) => pchoose_any b x d dx σ V W (MR.out.later hW) HD.out HXX.out HMY.out (fun k hk => by
        have nd := HU.out.kids HD.out k hk
        obtain ⟨e, he, _⟩ := nd.here
        exact ⟨e, he, by have := nd.may; rw [rOf_some he] at this; exact this⟩) (by have := hk1 (by omega); omega) (Nat.le_trans HKL.out HHI.out))
      unfold ptr at C
      clear hbd hk1
      go_wp2_with fail
      have hw1 := HW1.out
      go_quiet (fail)
      clear hw1
      go_wp2_with fail
      refine (C.out _ (below_drewN (Below.refl _ _) _)).mono ?_
      rintro e w2 ⟨k, hk, rfl, hb2⟩
      have B2 := Lib.hid (show Below wr.heap.size wr w2 from (below_drewN (Below.refl wr.heap.size wr) _).trans (hb2.mono (Nat.le_refl _)))
      have BW := Lib.hid (HB.out.trans (B2.out.mono HB.out.size))
      obtain ⟨hdn, dk, hdk, hlk, hkk, hlo⟩ := HU.out.down HD.out HKL.out hk
      have HDN := Lib.hid hdn
      have HDK := Lib.hid hdk
      have HLK := Lib.hid hlk
      have HKK := Lib.hid hkk
      have HLOK := Lib.hid hlo
      have O2 := Lib.hid (show (w2.alloc (.cells #[.pointer (some ⟨k, 0, none⟩)] 61)).ownsRow w.heap.size 61 1 (.slice (some ⟨g, 0, none⟩) (up.length + 1) c) (up.length + 1) ((b :: up).reverse.map ptr) from (HO.out.kept (row := none) ⟨B2.out.os, B2.out.tape, B2.out.output, B2.out.size, fun j hj _ => B2.out.block j hj⟩ (Or.inr (by simp [Value.ownBlock]))).alloc _)
      have BZ := Lib.hid (BW.out.alloc BW.out.size (.cells #[.pointer (some ⟨k, 0, none⟩)] 61))
      have nw : Hid (∀ j u, ([.pointer (some ⟨k, 0, none⟩)] : List Value)[j]? = some u → (w2.alloc (.cells #[.pointer (some ⟨k, 0, none⟩)] 61)).cell? ((⟨w2.heap.size, 0, none⟩ : Addr).add j) = some u) := Lib.hid fun j u hj => by
        match j, hj with
        | 0, hj => simp at hj; subst hj; simp [Addr.add, go_sem]
        | j + 1, hj => simp at hj
      have one : Hid (∀ u ∈ ([.pointer (some ⟨k, 0, none⟩)] : List Value), u.oneCell' = true) := Lib.hid fun u hu => by simp at hu; subst hu; rfl
      have SZ := Lib.hid (show w.heap.size ≤ (w2.alloc (.cells #[.pointer (some ⟨k, 0, none⟩)] 61)).heap.size from BZ.out.size)
      have hbd := HBD.out
      clear hk hb2 hdn hdk hlk hkk hlo z0 y0
      go_wp2_with (first | (at_builtin; go_loud (refine wpList_append_own_at _ rfl _ _ 73 rfl w.heap.size 61 i0 (.pointer none) 1 8 Tryz.underlying73 hi0 hz0 hz1 hz2 rfl (by decide) _ _ _ rfl O2.out ⟨w2.heap.size, 0, none⟩ 1 1 [.pointer (some ⟨k, 0, none⟩)] rfl rfl nw.out one.out (by unfold maxLen; omega) (by omega) SZ.out ?_)))
      intro v' w4 hown hgrow _ _
      obtain ⟨g4, c4, e4⟩ : ∃ g4 c4, v' = .slice (some ⟨g4, 0, none⟩) (up.length + 1 + 1) c4 := by
        rcases hown.2 with ⟨_, e⟩ | ⟨g4, c4, _, e, _⟩
        · omega
        · exact ⟨g4, c4, e⟩
      subst e4
      have HO4 := Lib.hid hown
      have B4 := Lib.hid (BZ.out.grown hgrow SZ.out (fun j hj => (O2.out.lt j hj).1))
      clear hown hgrow
      go_wp2_with fail
      go_roundw
      case rel =>
        refine ⟨hn, k, b :: up, dk, g4, c4, rfl, rfl, by omega, HDN.out, HDK.out, HLK.out, HKK.out, fun _ => by have := HLOK.out; have := HLO.out; omega, ⟨by simp; omega, by have := HHH.out.1; simp; omega, HHH.out.2⟩, ?_, B4.out⟩
        simpa [ptr] using HO4.out
      case measure => rw [lvOf_ptr HDK.out, lvOf_ptr HD.out, HLK.out, HLD.out]; simp
    · have hz : ¬ (hx : Int) < (h' : Int) := by omega
      have he : h' = hx := by omega
      have hbd2 := hbd
      clear hbd hk1
      go_wp2_with fail
      have hw1 := HW1.out
      go_quiet (fail)
      clear hw1
      go_wp2_with fail
      have O2 := Lib.hid (show (wr.drewN nq).ownsRow 0 61 1 (.slice (some ⟨g, 0, none⟩) (up.length + 1) c) (up.length + 1) ((b :: up).reverse.map ptr) from ownsRow_le (HO.out.kept (row := none) ⟨rfl, rfl, rfl, Nat.le_refl _, fun _ _ _ => rfl⟩ (Or.inr (by simp [Value.ownBlock]))) (Nat.zero_le _))
      have LEN : (b :: up).reverse.length = up.length + 1 := by simp
      have CR := Lib.hid (reverse_any g c (b :: up).reverse (wr.drewN nq) (by rw [LEN]; exact O2.out) (by rw [LEN]; omega) (by rw [LEN]; omega))
      rw [LEN, List.reverse_reverse] at CR
      have GB := Lib.hid (HO.out.lt g rfl).1
      have FIN := Lib.hid (show Up σ lo hi rlo hx b up E G by rw [← he]; exact HU.out)
      clear LEN
      refine (CR.out).mono ?_
      rintro e w3 ⟨rfl, hown, hgr⟩
      have HO3 := Lib.hid hown
      have B3 := Lib.hid (show Below w.heap.size w w3 from (below_drewN HB.out nq).grown hgr HB.out.size (fun j hj => by cases hj; exact GB.out))
      clear hown hgr CR
      go_wp2_with fail
      go_ret
      exact ⟨b, up, d, g, c, rfl, GB.out, FIN.out, HD.out, HKL.out, ⟨by rw [← he]; exact HHH.out.1, HHH.out.2⟩, HO3.out, B3.out⟩
end Go.Proofs.YtobkgamcjfjghaaGreat.Rt
