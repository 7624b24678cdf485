/-
  Cuts in memory; slices.MinFunc over them: one of them, whatever the comparator tells. Memory that was there is left as it was.
-/
import Derived.Test.YtobkgamcjfjghaaGreatMp04
import Derived.Test.YtobkgamcjfjghaaGreatMp06
import Derived.Test.YtobkgamcjfjghaaGreatMp05
/-
  Contract of loseFarthest of an R*-tree's part: some kids go, the others stay. Which ones is not told.
-/
namespace Go.Proofs.YtobkgamcjfjghaaGreat.Rt
open Go.RowKit Go.Proofs.YtobkgamcjfjghaaGreat.Pt Go.Proofs.YtobkgamcjfjghaaGreat.Rc Go.Proofs.YtobkgamcjfjghaaGreat.Rs
set_option linter.unusedVariables false
set_option linter.unusedSimpArgs false
set_option maxRecDepth 100000

/-- Places in an order are so many numbers, each once. -/
theorem places_nat {n : Nat} {d : Array Int} (hs : d.size = n) (hp : Sort.PermIn 0 n (idA n) d) : ∃ ds : List Nat, ds.Perm (List.range n) ∧ ∀ t (h : t < ds.length), d[t]! = ((ds[t] : Nat) : Int) := by
  have h := hp.2.2
  rw [Array.extract_eq_self_of_le (by omega), Array.extract_eq_self_of_le (by rw [idA_size]; exact Nat.le_refl _)] at h
  have e : (idA n).toList = (List.range n).map fun k => ((k : Nat) : Int) := by
    apply List.ext_getElem
    · simp [idA]
    · intro i h1 h2
      simp [idA]
  rw [e] at h
  have h2 := h.map Int.toNat
  rw [List.map_map] at h2
  have e2 : (List.range n).map (Int.toNat ∘ fun k => ((k : Nat) : Int)) = List.range n := by
    rw [List.map_congr_left (g := id) (fun k _ => by simp), List.map_id]
  rw [e2] at h2
  refine ⟨d.toList.map Int.toNat, h2, fun t ht => ?_⟩
  rw [List.length_map, Array.length_toList] at ht
  rw [List.getElem_map, Array.getElem_toList, getElem!_pos d t ht]
  have hm : d[t] ∈ (List.range n).map fun k => ((k : Nat) : Int) := h.subset (Array.getElem_mem_toList ht)
  obtain ⟨k, _, hk⟩ := List.mem_map.1 hm
  rw [← hk]
  simp
theorem pick_mem {ks ps : List Nat} (h : ∀ p ∈ ps, p < ks.length) : ∀ k ∈ pickL ks ps, k ∈ ks := by
  intro k hk
  unfold pickL at hk
  obtain ⟨p, hp, rfl⟩ := List.mem_map.1 hk
  rw [List.getD_eq_getElem?_getD, List.getElem?_eq_getElem (h p hp)]
  exact List.getElem_mem _
theorem pick_nodup {ks : List Nat} (hn : ks.Nodup) : ∀ {ps : List Nat}, (∀ p ∈ ps, p < ks.length) → ps.Nodup → (pickL ks ps).Nodup
  | [], _, _ => List.nodup_nil
  | p :: t, h, hd => by
    rw [List.nodup_cons] at hd
    show (ks.getD p 0 :: pickL ks t).Nodup
    rw [List.nodup_cons]
    refine ⟨fun hm => ?_, pick_nodup hn (fun q hq => h q (by simp [hq])) hd.2⟩
    unfold pickL at hm
    obtain ⟨q, hq, e⟩ := List.mem_map.1 hm
    have h1 := h p (by simp)
    have h2 := h q (by simp [hq])
    rw [List.getD_eq_getElem?_getD, List.getD_eq_getElem?_getD, List.getElem?_eq_getElem h1, List.getElem?_eq_getElem h2] at e
    simp only [Option.getD_some] at e
    have pw := List.pairwise_iff_getElem.1 hn
    rcases Nat.lt_trichotomy q p with hlt | heq | hgt
    · exact pw q p h2 h1 hlt e
    · exact hd.1 (heq ▸ hq)
    · exact pw p q h1 h2 hgt e.symm
/-- What stays and what goes are all. -/
theorem part_perm {ks fs : List Nat} (hn : ks.Nodup) (hf : fs.Nodup) (hs : ∀ k ∈ fs, k ∈ ks) : ((ks.filter fun k => !(fs.contains k)) ++ fs).Perm ks := by
  rw [List.perm_iff_count]
  intro a
  rw [List.count_append]
  by_cases ha : a ∈ fs
  · have h1 : (ks.filter fun k => !(fs.contains k)).count a = 0 := List.count_eq_zero.2 fun hm => by
      have := (List.mem_filter.1 hm).2
      simp [ha] at this
    have c1 := List.nodup_iff_count.1 hf a
    have c2 := List.count_pos_iff.2 ha
    have c3 := List.nodup_iff_count.1 hn a
    have c4 := List.count_pos_iff.2 (hs a ha)
    omega
  · rw [List.count_eq_zero.2 ha, List.count_filter (by simp [ha])]
    rfl
theorem far1_any (g o cap x h : Nat) (ls : List Nat) (w : World) (hh : w.cell? ⟨h, 0, none⟩ = some (.slice (some ⟨g, o, none⟩) ls.length cap)) (hg : g < w.heap.size) (hc : ∀ (i : Nat) (hi : i < ls.length), w.cell? ⟨g, o + i, none⟩ = some (ptr ls[i])) (hn : ls.length ≤ 20) (hx : Ob w x) (ho : ∀ k ∈ ls, Ob w k) :
    Calls Tryz.prog 69 #[ptr x, .pointer (some ⟨h, 0, none⟩)] w fun e w' => e = .returned (.bool (ls.contains x)) ∧ Below w.heap.size w w' := by
  have C := Lib.hid (contains_any g o cap x ls w hg hc hn hx ho)
  obtain ⟨n, en⟩ : ∃ n, n = ls.length := ⟨_, rfl⟩
  rw [← en] at C hh
  unfold ptr at C ⊢
  clear en hc hn hx ho
  go_enter Tryz.func69, Tryz.ntmps69
  go_wp2_with fail
  refine (C.out).mono ?_
  rintro e w1 ⟨rfl, hb1⟩
  have B := Lib.hid hb1
  clear hb1
  go_wp2_with fail
  go_ret
  exact ⟨by simp, B.out⟩
end Go.Proofs.YtobkgamcjfjghaaGreat.Rt
/-
  Contract of package rsplit's compareCuts: some number. Memory that was there is left as it was.
-/
namespace Go.Proofs.YtobkgamcjfjghaaGreat.Rs
open Go.RowKit Go.Proofs.YtobkgamcjfjghaaGreat.Pt Go.Proofs.YtobkgamcjfjghaaGreat.Rc Go.Proofs.YtobkgamcjfjghaaGreat.Pts
set_option linter.unusedVariables false
set_option linter.unusedSimpArgs false
set_option maxHeartbeats 4000000
set_option maxRecDepth 100000
/-- A cut as a value. -/
def cutV (s : Option Addr) (n c : Nat) (f m o r : Int) : Value := .agg #[.slice s n c, .int .i64 f, .int .i64 m, .int .i64 o, .int .u64 r]
theorem cuts_any (xs : Option Addr) (xn xc : Nat) (xf xm xo xr : Int) (ys : Option Addr) (yn yc : Nat) (yf ym yo yr : Int) (w : World) : Calls Tryz.prog 91 #[cutV xs xn xc xf xm xo xr, cutV ys yn yc yf ym yo yr] w fun e w' => ∃ n : Int, e = .returned (.int .i64 n) ∧ Below w.heap.size w w' := by
  obtain ⟨v, hv⟩ : ∃ v, v = (w.alloc (.cells #[.slice xs xn xc, .int .i64 xf, .int .i64 xm, .int .i64 xo, .int .u64 xr] 127)).alloc (.cells #[.slice ys yn yc, .int .i64 yf, .int .i64 ym, .int .i64 yo, .int .u64 yr] 127) := ⟨_, rfl⟩
  have hvs : (w.alloc (.cells #[.slice xs xn xc, .int .i64 xf, .int .i64 xm, .int .i64 xo, .int .u64 xr] 127)).alloc (.cells #[.slice ys yn yc, .int .i64 yf, .int .i64 ym, .int .i64 yo, .int .u64 yr] 127) = v := hv.symm
  have BV := Lib.hid (show Below w.heap.size w v by rw [hv]; exact below2 w _ _)
  have SV : w.heap.size + 1 < v.heap.size := by rw [hv]; simp
  have HS : Hid (∀ W, Below v.heap.size v W → W.cell? ⟨w.heap.size, 3, none⟩ = some (.int .i64 xo) ∧ W.cell? ⟨w.heap.size, 4, none⟩ = some (.int .u64 xr) ∧ W.cell? ⟨w.heap.size + 1, 3, none⟩ = some (.int .i64 yo) ∧ W.cell? ⟨w.heap.size + 1, 4, none⟩ = some (.int .u64 yr) ∧ Below v.heap.size v W) := Lib.hid fun W hB => by
    have q1 : ∀ x, W.cell? ⟨w.heap.size, x, none⟩ = v.cell? ⟨w.heap.size, x, none⟩ := fun x => World.cell?_of_block (w := v) (w' := W) (a := ⟨w.heap.size, x, none⟩) (hB.block w.heap.size (by omega))
    have q2 : ∀ x, W.cell? ⟨w.heap.size + 1, x, none⟩ = v.cell? ⟨w.heap.size + 1, x, none⟩ := fun x => World.cell?_of_block (w := v) (w' := W) (a := ⟨w.heap.size + 1, x, none⟩) (hB.block (w.heap.size + 1) SV)
    simp only [q1, q2]
    refine ⟨?_, ?_, ?_, ?_, hB⟩ <;> rw [hv] <;> simp
  have HV := Lib.hid hvs
  clear hv hvs SV
  unfold cutV
  go_enter Tryz.func91, Tryz.ntmps91
  go_wp2_with fail
  rw [HV.out]
  refine wp_region_held_drew (S := (fun W => W.cell? ⟨w.heap.size, 3, none⟩ = some (.int .i64 xo) ∧ W.cell? ⟨w.heap.size, 4, none⟩ = some (.int .u64 xr) ∧ W.cell? ⟨w.heap.size + 1, 3, none⟩ = some (.int .i64 yo) ∧ W.cell? ⟨w.heap.size + 1, 4, none⟩ = some (.int .u64 yr) ∧ Below v.heap.size v W)) (by kernel_rfl) (HS.out _ (Below.drew (Below.refl _ _))) (fun hHeld => ?_)
  refine wpAnyH_take (i := 0) (v := ?v0) rfl (by kernel_rfl) (by kernel_rfl) (by kernel_rfl) (fun _ _ _ h => h) (Or.inl ⟨by rfl, ?y0⟩) hHeld ?r0
  case y0 => (intro W hSw; simp only [List.getElem_toArray, List.getElem_cons_zero]; go_simp; try (with_reducible rfl))
  simp only [List.getElem_toArray, List.getElem_cons_zero, Act.put, List.setIfInBounds_toArray, List.set_cons_zero, List.set_cons_succ]
  refine wpAnyH_take (i := 1) (v := ?v1) rfl (by kernel_rfl) (by kernel_rfl) (by kernel_rfl) (fun _ _ _ h => h) (Or.inl ⟨by rfl, ?y1⟩) hHeld ?r1
  case y1 => (intro W hSw; simp only [List.getElem_toArray, List.getElem_cons_succ, List.getElem_cons_zero]; go_simp; try (with_reducible rfl))
  simp only [List.getElem_toArray, List.getElem_cons_succ, List.getElem_cons_zero, Act.put, List.setIfInBounds_toArray, List.set_cons_zero, List.set_cons_succ]
  refine wpAnyH_take (i := 2) (v := ?v2) rfl (by kernel_rfl) (by kernel_rfl) (by kernel_rfl) (fun _ _ _ h => h) (Or.inl ⟨by rfl, ?y2⟩) hHeld ?r2
  case y2 => (intro W hSw; simp only [List.getElem_toArray, List.getElem_cons_succ, List.getElem_cons_zero]; go_simp; try (with_reducible rfl))
  simp only [List.getElem_toArray, List.getElem_cons_succ, List.getElem_cons_zero, Act.put, List.setIfInBounds_toArray, List.set_cons_zero, List.set_cons_succ]
  refine wpAnyH_take (i := 3) (v := ?v3) rfl (by kernel_rfl) (by kernel_rfl) (by kernel_rfl) (fun _ _ _ h => h) (Or.inl ⟨by rfl, ?y3⟩) hHeld ?r3
  case y3 => (intro W hSw; simp only [List.getElem_toArray, List.getElem_cons_succ, List.getElem_cons_zero]; go_simp; try (with_reducible rfl))
  simp only [List.getElem_toArray, List.getElem_cons_succ, List.getElem_cons_zero, Act.put, List.setIfInBounds_toArray, List.set_cons_zero, List.set_cons_succ]
  refine wpAnyH_take (i := 5) (v := ?v5) rfl (by kernel_rfl) (by kernel_rfl) (by kernel_rfl) (fun _ _ _ h => h) (Or.inl ⟨by rfl, ?y5⟩) hHeld ?r5
  case y5 => (intro W hSw; simp only [List.getElem_toArray, List.getElem_cons_succ, List.getElem_cons_zero]; go_simp; try (with_reducible rfl))
  simp only [List.getElem_toArray, List.getElem_cons_succ, List.getElem_cons_zero, Act.put, List.setIfInBounds_toArray, List.set_cons_zero, List.set_cons_succ]
  refine wpAnyH_take (i := 6) (v := ?v6) rfl (by kernel_rfl) (by kernel_rfl) (by kernel_rfl) (fun _ _ _ h => h) (Or.inl ⟨by rfl, ?y6⟩) hHeld ?r6
  case y6 => (intro W hSw; simp only [List.getElem_toArray, List.getElem_cons_succ, List.getElem_cons_zero]; go_simp; try (with_reducible rfl))
  simp only [List.getElem_toArray, List.getElem_cons_succ, List.getElem_cons_zero, Act.put, List.setIfInBounds_toArray, List.set_cons_zero, List.set_cons_succ]
  refine wpAnyH_take (i := 7) (v := ?v7) rfl (by kernel_rfl) (by kernel_rfl) (by kernel_rfl) (fun _ _ _ h => h) (Or.inl ⟨by rfl, ?y7⟩) hHeld ?r7
  case y7 => (intro W hSw; simp only [List.getElem_toArray, List.getElem_cons_succ, List.getElem_cons_zero]; go_simp; try (with_reducible rfl))
  simp only [List.getElem_toArray, List.getElem_cons_succ, List.getElem_cons_zero, Act.put, List.setIfInBounds_toArray, List.set_cons_zero, List.set_cons_succ]
  refine wpAnyH_take (i := 8) (v := ?v8) rfl (by kernel_rfl) (by kernel_rfl) (by kernel_rfl) (fun _ _ _ h => h) (Or.inl ⟨by rfl, ?y8⟩) hHeld ?r8
  case y8 => (intro W hSw; simp only [List.getElem_toArray, List.getElem_cons_succ, List.getElem_cons_zero]; go_simp; try (with_reducible rfl))
  simp only [List.getElem_toArray, List.getElem_cons_succ, List.getElem_cons_zero, Act.put, List.setIfInBounds_toArray, List.set_cons_zero, List.set_cons_succ]
  refine wpAnyH_ready (rs := [4]) (by kernel_rfl) (by simp) (AllReadyH.cons rfl (fun K hK => ?_) AllReadyH.nil)
  simp only [List.getElem_toArray, List.getElem_cons_succ, List.getElem_cons_zero]
  go_simp
  go_at_call 96; refine (cmpI_any _ _ _).mono ?_; rintro e w1 ⟨n4, rfl, rfl⟩
  try go_wp2_with fail
  refine hK.out _ _ (by first | exact hHeld | exact HS.out _ (hHeld.2.2.2.2.alloc hHeld.2.2.2.2.size _)) (fun hHeld1 => ?_)
  clear hK K hHeld
  have hHeld := hHeld1; clear hHeld1
  try simp only [List.getElem_toArray, List.getElem_cons_succ, List.getElem_cons_zero, Act.put, List.setIfInBounds_toArray, List.set_cons_zero, List.set_cons_succ]
  refine wpAnyH_ready (rs := [9]) (by kernel_rfl) (by simp) (AllReadyH.cons rfl (fun K hK => ?_) AllReadyH.nil)
  simp only [List.getElem_toArray, List.getElem_cons_succ, List.getElem_cons_zero]
  go_simp
  go_at_call 114; refine (cmpU_any _ _ _).mono ?_; rintro e w1 ⟨n9, rfl, rfl⟩
  try go_wp2_with fail
  refine hK.out _ _ (by first | exact hHeld | exact HS.out _ (hHeld.2.2.2.2.alloc hHeld.2.2.2.2.size _)) (fun hHeld1 => ?_)
  clear hK K hHeld
  have hHeld := hHeld1; clear hHeld1
  try simp only [List.getElem_toArray, List.getElem_cons_succ, List.getElem_cons_zero, Act.put, List.setIfInBounds_toArray, List.set_cons_zero, List.set_cons_succ]
  refine wpAnyH_ready (rs := [10]) (by kernel_rfl) (by simp) (AllReadyH.cons rfl (fun K hK => ?_) AllReadyH.nil)
  simp only [List.getElem_toArray, List.getElem_cons_succ, List.getElem_cons_zero]
  go_simp
  skip
  try go_wp2_with fail
  refine hK.out _ _ (by first | exact hHeld | exact HS.out _ (hHeld.2.2.2.2.alloc hHeld.2.2.2.2.size _)) (fun hHeld1 => ?_)
  clear hK K hHeld
  have hHeld := hHeld1; clear hHeld1
  try simp only [List.getElem_toArray, List.getElem_cons_succ, List.getElem_cons_zero, Act.put, List.setIfInBounds_toArray, List.set_cons_zero, List.set_cons_succ]
  refine wpAnyH_ready (rs := [11]) (by kernel_rfl) (by simp) (AllReadyH.cons rfl (fun K hK => ?_) AllReadyH.nil)
  simp only [List.getElem_toArray, List.getElem_cons_succ, List.getElem_cons_zero]
  go_simp
  go_at_call 113; refine (or_any _ _ _ _ _ (by omega) (or2d _ _ _ _)).mono ?_
  rintro e w1 ⟨n11, rfl, rfl⟩
  try go_wp2_with fail
  refine hK.out _ _ (by first | exact hHeld | exact HS.out _ (hHeld.2.2.2.2.alloc hHeld.2.2.2.2.size _)) (fun hHeld1 => ?_)
  clear hK K hHeld
  have hHeld := hHeld1; clear hHeld1
  try simp only [List.getElem_toArray, List.getElem_cons_succ, List.getElem_cons_zero, Act.put, List.setIfInBounds_toArray, List.set_cons_zero, List.set_cons_succ]
  refine wpAnyH_take (i := 12) (v := ?v12) rfl (by kernel_rfl) (by kernel_rfl) (by kernel_rfl) (fun _ _ _ h => h) (Or.inl ⟨by rfl, ?y12⟩) hHeld ?r12
  case y12 => (intro W hSw; simp only [List.getElem_toArray, List.getElem_cons_succ, List.getElem_cons_zero]; go_simp; try (with_reducible rfl))
  simp only [List.getElem_toArray, List.getElem_cons_succ, List.getElem_cons_zero, Act.put, List.setIfInBounds_toArray, List.set_cons_zero, List.set_cons_succ]
  refine wpAnyH_done (by kernel_rfl) ?_ _
  have HZ := Lib.hid hHeld.2.2.2.2
  clear hHeld
  go_wp2_with fail
  go_ret
  exact ⟨n11, rfl, BV.out.trans (HZ.out.mono BV.out.size)⟩
end Go.Proofs.YtobkgamcjfjghaaGreat.Rs
namespace Go.Proofs.YtobkgamcjfjghaaGreat.Rs
open Go.RowKit Go.Proofs.YtobkgamcjfjghaaGreat.Pt Go.Proofs.YtobkgamcjfjghaaGreat.Rc Go.Proofs.YtobkgamcjfjghaaGreat.Pts
set_option linter.unusedVariables false
set_option linter.unusedSimpArgs false
set_option maxHeartbeats 4000000
set_option maxRecDepth 100000
/-- A cut. -/
structure Cut where
  s : Option Addr
  n : Nat
  c : Nat
  f : Int
  m : Int
  o : Int
  r : Int
def Cut.v (x : Cut) : Value := cutV x.s x.n x.c x.f x.m x.o x.r
/-- A cut in a block of the call's own. -/
def Cu (W : World) (g : Nat) (x : Cut) : Prop := W.cell? ⟨g, 0, none⟩ = some (.slice x.s x.n x.c) ∧ W.cell? ⟨g, 1, none⟩ = some (.int .i64 x.f) ∧ W.cell? ⟨g, 2, none⟩ = some (.int .i64 x.m) ∧ W.cell? ⟨g, 3, none⟩ = some (.int .i64 x.o) ∧ W.cell? ⟨g, 4, none⟩ = some (.int .u64 x.r) ∧ W.frozen? ⟨g, 0, none⟩ = false ∧ W.frozen? ⟨g, 1, none⟩ = false ∧ W.frozen? ⟨g, 2, none⟩ = false ∧ W.frozen? ⟨g, 3, none⟩ = false ∧ W.frozen? ⟨g, 4, none⟩ = false
theorem Cu.lt {W : World} {g : Nat} {x : Cut} (h : Cu W g x) : g < W.heap.size := World.block_lt_of_cell? W ⟨g, 0, none⟩ h.1
theorem Cu.below {W V : World} {z g : Nat} {x : Cut} (h : Cu W g x) (hb : Below z W V) (hg : g < z) : Cu V g x := by
  have hc : ∀ y, V.cell? ⟨g, y, none⟩ = W.cell? ⟨g, y, none⟩ := fun y => World.cell?_of_block (w := W) (w' := V) (a := ⟨g, y, none⟩) (hb.block g hg)
  have hf : ∀ y, V.frozen? ⟨g, y, none⟩ = W.frozen? ⟨g, y, none⟩ := fun y => World.frozen?_of_block (w := W) (w' := V) (a := ⟨g, y, none⟩) (hb.block g hg)
  unfold Cu
  simp only [hc, hf]
  exact h
theorem Cu.later {W V : World} {g : Nat} {x : Cut} (h : Cu W g x) (hb : Below W.heap.size W V) : Cu V g x := h.below hb h.lt
theorem Cu.alloc {W : World} {g : Nat} {x : Cut} (h : Cu W g x) (o : Obj) : Cu (W.alloc o) g x := h.later ((Below.refl _ _).alloc (Nat.le_refl _) _)
theorem Cu.new (W : World) (x : Cut) (t : TypeId) : Cu (W.alloc (.cells #[.slice x.s x.n x.c, .int .i64 x.f, .int .i64 x.m, .int .i64 x.o, .int .u64 x.r] t)) W.heap.size x := by
  refine ⟨?_, ?_, ?_, ?_, ?_, ?_, ?_, ?_, ?_, ?_⟩ <;> simp [go_sem]
theorem Cu.far {W : World} {g : Nat} {x : Cut} (h : Cu W g x) {p : Addr} (v : Value) (hp : p.block ≠ g) : Cu (W.setCell p v) g x := by
  obtain ⟨a, b, c, d, e, f, i, j, k, l⟩ := h
  exact ⟨(cell_far W v hp).trans a, (cell_far W v hp).trans b, (cell_far W v hp).trans c, (cell_far W v hp).trans d, (cell_far W v hp).trans e, (frozen_set ..).trans f, (frozen_set ..).trans i, (frozen_set ..).trans j, (frozen_set ..).trans k, (frozen_set ..).trans l⟩
/-- All five written. -/
def put5 (W : World) (g : Nat) (x : Cut) : World := (((((W.setCell ⟨g, 0, none⟩ (.slice x.s x.n x.c)).setCell ⟨g, 1, none⟩ (.int .i64 x.f)).setCell ⟨g, 2, none⟩ (.int .i64 x.m)).setCell ⟨g, 3, none⟩ (.int .i64 x.o)).setCell ⟨g, 4, none⟩ (.int .u64 x.r))
theorem Cu.set {W : World} {g : Nat} {y : Cut} (h : Cu W g y) (x : Cut) : Cu (put5 W g x) g x := by
  obtain ⟨a, b, c, d, e, f, i, j, k, l⟩ := h
  unfold put5 Cu
  refine ⟨?_, ?_, ?_, ?_, ?_, ?_, ?_, ?_, ?_, ?_⟩ <;> simp [go_sem, *]
theorem put5_below {w W : World} {z g : Nat} (h : Below z w W) (hg : z ≤ g) (x : Cut) : Below z w (put5 W g x) :=
  ((((h.setCell hg _).setCell hg _).setCell hg _).setCell hg _).setCell hg _
/-- Cuts in a slice that begins at a. -/
def CsAt (W : World) (z : Nat) (a : Option Addr) (l : List Cut) : Prop :=
  l.length ≤ 1000 ∧ (0 < l.length → ∃ g o, a = some ⟨g, o, none⟩ ∧ g < z ∧ ∀ (k : Nat) (h : k < l.length), W.cell? ⟨g, o + k * 5, none⟩ = some (.slice l[k].s l[k].n l[k].c) ∧ W.cell? ⟨g, o + k * 5 + 1, none⟩ = some (.int .i64 l[k].f) ∧ W.cell? ⟨g, o + k * 5 + 2, none⟩ = some (.int .i64 l[k].m) ∧ W.cell? ⟨g, o + k * 5 + 3, none⟩ = some (.int .i64 l[k].o) ∧ W.cell? ⟨g, o + k * 5 + 4, none⟩ = some (.int .u64 l[k].r))
theorem CsAt.later {W V : World} {z : Nat} {a : Option Addr} {l : List Cut} (h : CsAt W z a l) (hb : Below z W V) : CsAt V z a l := by
  refine ⟨h.1, fun h0 => ?_⟩
  obtain ⟨g, o, e, hg, hc⟩ := h.2 h0
  have hq : ∀ x, V.cell? ⟨g, x, none⟩ = W.cell? ⟨g, x, none⟩ := fun x => World.cell?_of_block (w := W) (w' := V) (a := ⟨g, x, none⟩) (hb.block g hg)
  exact ⟨g, o, e, hg, fun k hk => by simp only [hq]; exact hc k hk⟩
/-- One of them. -/
theorem CsAt.at {W : World} {z : Nat} {a : Option Addr} {l : List Cut} (h : CsAt W z a l) {k : Nat} (hk : k < l.length) : ∃ g o, a = some ⟨g, o, none⟩ ∧ g < z ∧ ∃ x, l[k] = x ∧ W.cell? ⟨g, o + k * 5, none⟩ = some (.slice x.s x.n x.c) ∧ W.cell? ⟨g, o + k * 5 + 1, none⟩ = some (.int .i64 x.f) ∧ W.cell? ⟨g, o + k * 5 + 2, none⟩ = some (.int .i64 x.m) ∧ W.cell? ⟨g, o + k * 5 + 3, none⟩ = some (.int .i64 x.o) ∧ W.cell? ⟨g, o + k * 5 + 4, none⟩ = some (.int .u64 x.r) := by
  obtain ⟨g, o, e, hg, hc⟩ := h.2 (by omega)
  exact ⟨g, o, e, hg, l[k], rfl, hc k hk⟩
def MiR (w : World) (q : Nat) (l : List Cut) (v6 : Value) (wr : World) : Prop := ∃ (k : Nat) (x : Cut), v6 = .int .i64 (k : Int) ∧ 1 ≤ k ∧ k ≤ l.length ∧ x ∈ l ∧ Cu wr q ⟨none, 0, 0, 0, 0, 0, 0⟩ ∧ Cu wr (q + 1) x ∧ Below w.heap.size w wr
theorem min_any (a : Option Addr) (c : Nat) (l : List Cut) (w : World) (h : CsAt w w.heap.size a l) (h0 : 0 < l.length) : Calls Tryz.prog 90 #[.slice a l.length c, .func (.func 91) #[] #[]] w fun e w' => ∃ x ∈ l, e = .returned x.v ∧ Below w.heap.size w w' := by
  have h1000 := h.1
  obtain ⟨g, o, rfl, hg, ⟨xs, xn, xc, xf, xm, xo, xr⟩, hx, c0, c1, c2, c3, c4⟩ := h.at h0
  have HM := Lib.hid (show Cut.mk xs xn xc xf xm xo xr ∈ l by rw [← hx]; exact List.getElem_mem _)
  have H := Lib.hid h
  obtain ⟨n, hn⟩ : ∃ n, n = l.length := ⟨_, rfl⟩
  have HN := Lib.hid hn
  rw [← hn] at h1000 h0 ⊢
  clear h hx hn
  simp only [Nat.zero_mul, Nat.add_zero] at c0 c1 c2 c3 c4
  have hn1 : ¬ (n : Int) < 1 := by omega
  obtain ⟨q, hq⟩ : ∃ q, q = w.heap.size := ⟨_, rfl⟩
  have HQ := Lib.hid hq
  have Z0 := Lib.hid (show Cu ((w.alloc (.cells #[.slice none 0 0, .int .i64 0, .int .i64 0, .int .i64 0, .int .u64 0] 127)).alloc (.cells #[.slice xs xn xc, .int .i64 xf, .int .i64 xm, .int .i64 xo, .int .u64 xr] 127)) q ⟨none, 0, 0, 0, 0, 0, 0⟩ by rw [hq]; exact (Cu.new w ⟨none, 0, 0, 0, 0, 0, 0⟩ _).alloc _)
  have Z1 := Lib.hid (show Cu ((w.alloc (.cells #[.slice none 0 0, .int .i64 0, .int .i64 0, .int .i64 0, .int .u64 0] 127)).alloc (.cells #[.slice xs xn xc, .int .i64 xf, .int .i64 xm, .int .i64 xo, .int .u64 xr] 127)) (q + 1) ⟨xs, xn, xc, xf, xm, xo, xr⟩ by
    have := Cu.new (w.alloc (.cells #[.slice none 0 0, .int .i64 0, .int .i64 0, .int .i64 0, .int .u64 0] 127)) ⟨xs, xn, xc, xf, xm, xo, xr⟩ 127
    rw [World.size_alloc, ← hq] at this
    exact this)
  have B0 := Lib.hid (below2 w (.cells #[.slice none 0 0, .int .i64 0, .int .i64 0, .int .i64 0, .int .u64 0] 127) (.cells #[.slice xs xn xc, .int .i64 xf, .int .i64 xm, .int .i64 xo, .int .u64 xr] 127))
  clear hq
  go_enter Tryz.func90, Tryz.ntmps90
  go_wp2_with fail
  rw [← HQ.out]
  go_loopw [6] (fun v6 wr => MiR w q l v6 wr) (fun v6 _ => n - (intOf v6).toNat)
  case atStart => exact ⟨1, _, rfl, Nat.le_refl _, by rw [← HN.out]; omega, HM.out, Z0.out, Z1.out, B0.out⟩
  case round =>
    clear c0 c1 c2 c3 c4 Z0 Z1 B0 HM
    obtain ⟨k, ⟨ys, yn, yc, yf, ym, yo, yr⟩, rfl, hk1, hk, hy, hR0, hR1, hB⟩ := hrel
    rw [← HN.out] at hk
    have HY := Lib.hid hy
    have R0 := Lib.hid hR0
    have R1 := Lib.hid hR1
    have HB := Lib.hid hB
    clear hy hR0 hR1 hB
    by_cases hlt : k < n
    · have hlz : (k : Int) < (n : Int) := by omega
      obtain ⟨g', o', e, hg', ⟨zs, zn, zc, zf, zm, zo, zr⟩, hz, c0, c1, c2, c3, c4⟩ := (H.out.later HB.out).at (k := k) (by rw [← HN.out]; exact hlt)
      cases e
      have HZ := Lib.hid (show Cut.mk zs zn zc zf zm zo zr ∈ l by rw [← hz]; exact List.getElem_mem _)
      clear hz
      dsimp only at c0 c1 c2 c3 c4
      have HS : Hid (∀ W, Below wr.heap.size wr W → W.cell? ⟨g, o + k * 5, none⟩ = some (.slice zs zn zc) ∧ W.cell? ⟨g, o + k * 5 + 1, none⟩ = some (.int .i64 zf) ∧ W.cell? ⟨g, o + k * 5 + 2, none⟩ = some (.int .i64 zm) ∧ W.cell? ⟨g, o + k * 5 + 3, none⟩ = some (.int .i64 zo) ∧ W.cell? ⟨g, o + k * 5 + 4, none⟩ = some (.int .u64 zr) ∧ W.cell? ⟨q + 1, 0, none⟩ = some (.slice ys yn yc) ∧ W.cell? ⟨q + 1, 1, none⟩ = some (.int .i64 yf) ∧ W.cell? ⟨q + 1, 2, none⟩ = some (.int .i64 ym) ∧ W.cell? ⟨q + 1, 3, none⟩ = some (.int .i64 yo) ∧ W.cell? ⟨q + 1, 4, none⟩ = some (.int .u64 yr) ∧ Below wr.heap.size wr W) := Lib.hid fun W hB => by
        have hgW : g < wr.heap.size := Nat.lt_of_lt_of_le hg HB.out.size
        have q1 : ∀ x, W.cell? ⟨g, x, none⟩ = wr.cell? ⟨g, x, none⟩ := fun x => World.cell?_of_block (w := wr) (w' := W) (a := ⟨g, x, none⟩) (hB.block g hgW)
        obtain ⟨d0, d1, d2, d3, d4, _⟩ := R1.out.later hB
        simp only [q1]
        exact ⟨c0, c1, c2, c3, c4, d0, d1, d2, d3, d4, hB⟩
      clear c0 c1 c2 c3 c4
      go_wp2_with fail
      refine wp_region_held_drew (S := (fun W => W.cell? ⟨g, o + k * 5, none⟩ = some (.slice zs zn zc) ∧ W.cell? ⟨g, o + k * 5 + 1, none⟩ = some (.int .i64 zf) ∧ W.cell? ⟨g, o + k * 5 + 2, none⟩ = some (.int .i64 zm) ∧ W.cell? ⟨g, o + k * 5 + 3, none⟩ = some (.int .i64 zo) ∧ W.cell? ⟨g, o + k * 5 + 4, none⟩ = some (.int .u64 zr) ∧ W.cell? ⟨q + 1, 0, none⟩ = some (.slice ys yn yc) ∧ W.cell? ⟨q + 1, 1, none⟩ = some (.int .i64 yf) ∧ W.cell? ⟨q + 1, 2, none⟩ = some (.int .i64 ym) ∧ W.cell? ⟨q + 1, 3, none⟩ = some (.int .i64 yo) ∧ W.cell? ⟨q + 1, 4, none⟩ = some (.int .u64 yr) ∧ Below wr.heap.size wr W)) (by kernel_rfl) (HS.out _ (Below.drew (Below.refl _ _))) (fun hHeld => ?_)
      refine wpAnyH_take (i := 0) (v := ?v0) rfl (by kernel_rfl) (by kernel_rfl) (by kernel_rfl) (fun _ _ _ h => h) (Or.inl ⟨by rfl, ?y0⟩) hHeld ?r0
      case y0 => (intro W hSw; simp only [List.getElem_toArray, List.getElem_cons_zero]; go_simp; try (with_reducible rfl))
      simp only [List.getElem_toArray, List.getElem_cons_zero, Act.put, List.setIfInBounds_toArray, List.set_cons_zero, List.set_cons_succ]
      refine wpAnyH_take (i := 1) (v := ?v1) rfl (by kernel_rfl) (by kernel_rfl) (by kernel_rfl) (fun _ _ _ h => h) (Or.inl ⟨by rfl, ?y1⟩) hHeld ?r1
      case y1 => (intro W hSw; simp only [List.getElem_toArray, List.getElem_cons_succ, List.getElem_cons_zero]; go_simp; try (with_reducible rfl))
      simp only [List.getElem_toArray, List.getElem_cons_succ, List.getElem_cons_zero, Act.put, List.setIfInBounds_toArray, List.set_cons_zero, List.set_cons_succ]
      refine wpAnyH_take (i := 2) (v := ?v2) rfl (by kernel_rfl) (by kernel_rfl) (by kernel_rfl) (fun _ _ _ h => h) (Or.inl ⟨by rfl, ?y2⟩) hHeld ?r2
      case y2 => (intro W hSw; simp only [List.getElem_toArray, List.getElem_cons_succ, List.getElem_cons_zero]; go_simp; try (with_reducible rfl))
      simp only [List.getElem_toArray, List.getElem_cons_succ, List.getElem_cons_zero, Act.put, List.setIfInBounds_toArray, List.set_cons_zero, List.set_cons_succ]
      refine wpAnyH_take (i := 3) (v := ?v3) rfl (by kernel_rfl) (by kernel_rfl) (by kernel_rfl) (fun _ _ _ h => h) (Or.inl ⟨by rfl, ?y3⟩) hHeld ?r3
      case y3 => (intro W hSw; simp only [List.getElem_toArray, List.getElem_cons_succ, List.getElem_cons_zero]; go_simp; try (with_reducible rfl))
      simp only [List.getElem_toArray, List.getElem_cons_succ, List.getElem_cons_zero, Act.put, List.setIfInBounds_toArray, List.set_cons_zero, List.set_cons_succ]
      refine wpAnyH_take (i := 4) (v := ?v4) rfl (by kernel_rfl) (by kernel_rfl) (by kernel_rfl) (fun _ _ _ h => h) (Or.inl ⟨by rfl, ?y4⟩) hHeld ?r4
      case y4 => (intro W hSw; simp only [List.getElem_toArray, List.getElem_cons_succ, List.getElem_cons_zero]; go_simp; try (with_reducible rfl))
      simp only [List.getElem_toArray, List.getElem_cons_succ, List.getElem_cons_zero, Act.put, List.setIfInBounds_toArray, List.set_cons_zero, List.set_cons_succ]
      refine wpAnyH_take (i := 5) (v := ?v5) rfl (by kernel_rfl) (by kernel_rfl) (by kernel_rfl) (fun _ _ _ h => h) (Or.inl ⟨by rfl, ?y5⟩) hHeld ?r5
      case y5 => (intro W hSw; simp only [List.getElem_toArray, List.getElem_cons_succ, List.getElem_cons_zero]; go_simp; try (with_reducible rfl))
      simp only [List.getElem_toArray, List.getElem_cons_succ, List.getElem_cons_zero, Act.put, List.setIfInBounds_toArray, List.set_cons_zero, List.set_cons_succ]
      refine wpAnyH_ready (rs := [6]) (by kernel_rfl) (by simp) (AllReadyH.cons rfl (fun K hK => ?_) AllReadyH.nil)
      simp only [List.getElem_toArray, List.getElem_cons_succ, List.getElem_cons_zero]
      go_simp
      go_at_call 91; refine (cuts_any zs zn zc zf zm zo zr ys yn yc yf ym yo yr _).mono ?_; rintro e w1 ⟨n6, rfl, hb1⟩
      try go_wp2_with fail
      refine hK.out _ _ (by exact HS.out _ (hHeld.2.2.2.2.2.2.2.2.2.2.trans (hb1.mono hHeld.2.2.2.2.2.2.2.2.2.2.size))) (fun hHeld1 => ?_)
      clear hK K hHeld
      have hHeld := hHeld1; clear hHeld1
      try simp only [List.getElem_toArray, List.getElem_cons_succ, List.getElem_cons_zero, Act.put, List.setIfInBounds_toArray, List.set_cons_zero, List.set_cons_succ]
      refine wpAnyH_take (i := 7) (v := ?v7) rfl (by kernel_rfl) (by kernel_rfl) (by kernel_rfl) (fun _ _ _ h => h) (Or.inl ⟨by rfl, ?y7⟩) hHeld ?r7
      case y7 => (intro W hSw; simp only [List.getElem_toArray, List.getElem_cons_succ, List.getElem_cons_zero]; go_simp; try (with_reducible rfl))
      simp only [List.getElem_toArray, List.getElem_cons_succ, List.getElem_cons_zero, Act.put, List.setIfInBounds_toArray, List.set_cons_zero, List.set_cons_succ]
      refine wpAnyH_done (by kernel_rfl) ?_ _
      have S1 := HS.out _ hHeld.2.2.2.2.2.2.2.2.2.2
      have R0' := Lib.hid (R0.out.later hHeld.2.2.2.2.2.2.2.2.2.2)
      have R1' := Lib.hid (R1.out.later hHeld.2.2.2.2.2.2.2.2.2.2)
      have HB' := Lib.hid (HB.out.trans (hHeld.2.2.2.2.2.2.2.2.2.2.mono HB.out.size))
      clear hHeld hb1 HS
      obtain ⟨c0, c1, c2, c3, c4, d0, d1, d2, d3, d4, -⟩ := S1
      obtain ⟨-, -, -, -, -, f0, f1, f2, f3, f4⟩ := R1'.out
      go_wp2_with fail
      · go_roundw
        case rel => exact ⟨k + 1, ⟨zs, zn, zc, zf, zm, zo, zr⟩, by go_num, by omega, by rw [← HN.out]; omega, HZ.out, Cu.far (Cu.far (Cu.far (Cu.far (Cu.far R0'.out _ (by simp)) _ (by simp)) _ (by simp)) _ (by simp)) _ (by simp), R1'.out.set ⟨zs, zn, zc, zf, zm, zo, zr⟩, put5_below HB'.out (by rw [← HQ.out]; omega) ⟨zs, zn, zc, zf, zm, zo, zr⟩⟩
        case measure => simp [intOf]; omega
      · go_roundw
        case rel => exact ⟨k + 1, ⟨ys, yn, yc, yf, ym, yo, yr⟩, by go_num, by omega, by rw [← HN.out]; omega, HY.out, R0'.out, R1'.out, HB'.out⟩
        case measure => simp [intOf]; omega
    · have hlz : ¬ (k : Int) < (n : Int) := by omega
      have hkn : k = n := by omega
      obtain ⟨d0, d1, d2, d3, d4, f0, f1, f2, f3, f4⟩ := R1.out
      obtain ⟨b0, b1, b2, b3, b4, e0, e1, e2, e3, e4⟩ := R0.out
      dsimp only at d0 d1 d2 d3 d4 b0 b1 b2 b3 b4
      have RN := Lib.hid (R0.out.set ⟨ys, yn, yc, yf, ym, yo, yr⟩)
      have BN := Lib.hid (put5_below HB.out (by rw [← HQ.out]; exact Nat.le_refl _) ⟨ys, yn, yc, yf, ym, yo, yr⟩ : Below w.heap.size w (put5 wr q ⟨ys, yn, yc, yf, ym, yo, yr⟩))
      go_wp2_with fail
      have BO := BN.out
      have RO := RN.out
      clear b0 b1 b2 b3 b4 d0 d1 d2 d3 d4 e0 e1 e2 e3 e4 f0 f1 f2 f3 f4 R0 R1 HB H RN BN
      unfold put5 at RO BO
      dsimp only at RO BO
      obtain ⟨a0, a1, a2, a3, a4, -⟩ := RO
      dsimp only at a0 a1 a2 a3 a4
      generalize (World.setCell _ _ _) = WE at a0 a1 a2 a3 a4 BO ⊢
      refine bodyPost_ret (v := (Cut.mk ys yn yc yf ym yo yr).v) (by simp [Cut.v, cutV, results, Tryz.results90, go_sem, *]) rfl ⟨_, HY.out, rfl, BO⟩
end Go.Proofs.YtobkgamcjfjghaaGreat.Rs
