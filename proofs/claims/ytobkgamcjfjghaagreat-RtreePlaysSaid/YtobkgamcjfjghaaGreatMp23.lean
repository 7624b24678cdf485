/-
  Contract of the law's Look.node at a root that is alone: nothing is amiss.
-/
import Derived.Test.YtobkgamcjfjghaaGreatMp21
namespace Go.Proofs.YtobkgamcjfjghaaGreat.Rt
open Go.RowKit Go.Joins Go.Proofs.YtobkgamcjfjghaaGreat.Pt Go.Proofs.YtobkgamcjfjghaaGreat.Rc Go.Proofs.YtobkgamcjfjghaaGreat.Rs
set_option linter.unusedVariables false
set_option linter.unusedSimpArgs false
set_option maxHeartbeats 8000000
set_option maxRecDepth 100000

theorem root_leaf (w1 : World) (σ : St) (V : Nat → Value) (t o mb root h : Nat) (M : Int → Option Nat) (G : List Nat) (gL cL : Nat) (L : List (Nat × Nat)) (T : List Tn) (x m2 : Nat) (EV : Ev w1 σ V t o mb root h M G gL L T) (o1 : 4 ≤ o) (o2 : o ≤ 16) (p : Nat) (u : Tn) (B : List Nat) (items : Nat) (W : World) (hu : T[p]? = some u) (hul : u.l = 0) (hp0 : p = 0) (hnd : Nd σ 0 o (0 + 1) u.b) (hB : ∀ c ∈ inn σ (0 + 1) u.b, c ∉ B) (hnd2 : (inn σ (0 + 1) u.b).Nodup) (hlv : ∀ c ∈ lvs σ (0 + 1) u.b, c ∈ G) (hit : items + (lvs σ (0 + 1) u.b).length ≤ 100000) (HLK : Lk w1 x m2 (.slice (some ⟨gL, 0, none⟩) L.length cL) o t L B items W) :
    Calls Tryz.prog 27 #[ptr x, .int .i64 (p : Int)] W (NodeE w1 x m2 (.slice (some ⟨gL, 0, none⟩) L.length cL) o t L σ B items u.b 0 W) := by
  have hp1 := (List.getElem?_eq_some_iff.1 hu).1
  rw [EV.len] at hp1
  have hLp := EV.at hu
  obtain ⟨d, d1, d2, d3, d4, d5, d6⟩ := id hnd
  have KD : kidsOf σ u.b = d.kids := kidsOf_some d1
  have RD : rOf σ u.b = d.r := rOf_some d1
  obtain ⟨b, eb⟩ : ∃ b, b = u.b := ⟨_, rfl⟩
  obtain ⟨g, eg⟩ : ∃ g, g = u.g := ⟨_, rfl⟩
  obtain ⟨n, hn⟩ : ∃ n, n = d.kids.length := ⟨_, rfl⟩
  obtain ⟨r1, er1⟩ : ∃ r1, r1 = d.r.x1 := ⟨_, rfl⟩
  obtain ⟨r2, er2⟩ : ∃ r2, r2 = d.r.y1 := ⟨_, rfl⟩
  obtain ⟨r3, er3⟩ : ∃ r3, r3 = d.r.x2 := ⟨_, rfl⟩
  obtain ⟨r4, er4⟩ : ∃ r4, r4 = d.r.y2 := ⟨_, rfl⟩
  obtain ⟨lz, elz⟩ : ∃ lz : Int, lz = (0 : Nat) := ⟨_, rfl⟩
  have CE : Tn.cells σ u = (#[.int .i64 lz, .int .i64 r1, .int .i64 r2, .int .i64 r3, .int .i64 r4, .slice (some ⟨g, 0, none⟩) n n] : Array Value).toList := by
    unfold Tn.cells
    rw [RD, KD, er1, er2, er3, er4, hn, hul, eg, elz]
  have TC := EV.told p u hu
  rw [CE] at TC
  have a0 : W.cell? ⟨gL, p * 6, none⟩ = some (.int .i64 lz) := cell_later HLK.below (TC 0 (by omega))
  have a1 : W.cell? ⟨gL, p * 6 + 1, none⟩ = some (.int .i64 r1) := cell_later HLK.below (TC 1 (by omega))
  have a2 : W.cell? ⟨gL, p * 6 + 2, none⟩ = some (.int .i64 r2) := cell_later HLK.below (TC 2 (by omega))
  have a3 : W.cell? ⟨gL, p * 6 + 3, none⟩ = some (.int .i64 r3) := cell_later HLK.below (TC 3 (by omega))
  have a4 : W.cell? ⟨gL, p * 6 + 4, none⟩ = some (.int .i64 r4) := cell_later HLK.below (TC 4 (by omega))
  have a5 : W.cell? ⟨gL, p * 6 + 5, none⟩ = some (.slice (some ⟨g, 0, none⟩) n n) := cell_later HLK.below (TC 5 (by omega))
  obtain ⟨x0, x1, x2, x3, x4, x5, xf⟩ := HLK.cells
  obtain ⟨ml, ml2, mx⟩ := HLK.m2l
  have m0 : W.cell? ⟨m2, p, none⟩ = some (.bool false) := by
    rw [HLK.met.cellAt p (by omega), metL_at hLp, decide_eq_false (hB u.b (by simp [inn]))]
  have mf := HLK.met.frozenAt
  have xs : x < W.heap.size := (Array.getElem?_eq_some_iff.1 HLK.obj).1
  have hx1 := HLK.xl
  obtain ⟨NL, hNL⟩ : ∃ NL, NL = L.length := ⟨_, rfl⟩
  have MF : ∀ W', Below W.heap.size W W' → (∀ c, W'.frozen? ⟨m2, c, none⟩ = false) := fun W' hb c => (World.frozen?_of_block (w := W) (w' := W') (a := ⟨m2, c, none⟩) (hb.block m2 ml2)).trans (mf c)
  obtain ⟨WN, hWN⟩ : ∃ v, v = W.alloc (.cells #[.int .i64 lz, .int .i64 r1, .int .i64 r2, .int .i64 r3, .int .i64 r4, .slice (some ⟨g, 0, none⟩) n n] 81) := ⟨_, rfl⟩
  have BN : Below W.heap.size W WN := by rw [hWN]; exact (Below.refl _ _).alloc (Nat.le_refl _) _
  have y0 := cell_later BN x0
  have y1 := cell_later BN x1
  have y2 := cell_later BN x2
  have y3 := cell_later BN x3
  have y4 := cell_later BN x4
  have y5 := cell_later BN x5
  have n0 := cell_later BN m0
  have nf := MF WN BN
  have HLKh := Lib.hid HLK
  rw [hWN] at y0 y1 y2 y3 y4 y5 n0 nf
  rw [← hNL] at x0 x3 y0 y3 hp1 ⊢
  have hp1' : (p : Int) < (NL : Int) := by omega
  have hpz : ¬ (p : Int) < 0 := by omega
  have hpN : ¬ (p : Int) ≥ (NL : Int) := by omega
  have SEE2 := HLKh.out.see EV.nd hLp
  obtain ⟨WS, hWS⟩ : ∃ v, v = W.setCell ⟨m2, p, none⟩ (.bool true) := ⟨_, rfl⟩
  rw [← hWS] at SEE2
  have hsz : WS.heap.size = W.heap.size := by rw [hWS]; simp
  have b1 : Below WS.heap.size WS ((WS.alloc (.cells #[.int .i64 lz, .int .i64 r1, .int .i64 r2, .int .i64 r3, .int .i64 r4, .slice (some ⟨g, 0, none⟩) n n] 81)).alloc (.cells #[.int .i64 0, .int .i64 0, .int .i64 0, .int .i64 0] 26)) := ((Below.refl _ _).alloc (Nat.le_refl _) _).alloc (by simp) _
  have R0 := Lib.hid (show LoR w1 x m2 (.slice (some ⟨gL, 0, none⟩) NL cL) o t L σ B items u W W.heap.size (W.heap.size + 1) (.int .i64 0) ((WS.alloc (.cells #[.int .i64 lz, .int .i64 r1, .int .i64 r2, .int .i64 r3, .int .i64 r4, .slice (some ⟨g, 0, none⟩) n n] 81)).alloc (.cells #[.int .i64 0, .int .i64 0, .int .i64 0, .int .i64 0] 26)) from ⟨0, rfl, Nat.zero_le _, by
    refine ⟨?_, SEE2.2.below b1, ?_, ?_, Nat.le_refl _, by omega⟩
    · rw [List.take_zero, List.flatMap_nil, List.nil_append, List.flatMap_nil, List.length_nil, Nat.add_zero, hNL]
      exact SEE2.1.later b1
    · rw [CE, ← hsz]
      exact (((Below.refl _ _).alloc (Nat.le_refl _) _ : Below (WS.alloc (.cells #[.int .i64 lz, .int .i64 r1, .int .i64 r2, .int .i64 r3, .int .i64 r4, .slice (some ⟨g, 0, none⟩) n n] 81)).heap.size (WS.alloc (.cells #[.int .i64 lz, .int .i64 r1, .int .i64 r2, .int .i64 r3, .int .i64 r4, .slice (some ⟨g, 0, none⟩) n n] 81)) ((WS.alloc (.cells #[.int .i64 lz, .int .i64 r1, .int .i64 r2, .int .i64 r3, .int .i64 r4, .slice (some ⟨g, 0, none⟩) n n] 81)).alloc (.cells #[.int .i64 0, .int .i64 0, .int .i64 0, .int .i64 0] 26))).block WS.heap.size (by simp)).trans (MapKept.heap_alloc WS _).1
    · rw [List.take_zero, hull_nil, ← hsz]
      have := (MapKept.heap_alloc (WS.alloc (.cells #[.int .i64 lz, .int .i64 r1, .int .i64 r2, .int .i64 r3, .int .i64 r4, .slice (some ⟨g, 0, none⟩) n n] 81)) (.cells #[.int .i64 0, .int .i64 0, .int .i64 0, .int .i64 0] 26)).1
      rw [show (WS.alloc (.cells #[.int .i64 lz, .int .i64 r1, .int .i64 r2, .int .i64 r3, .int .i64 r4, .slice (some ⟨g, 0, none⟩) n n] 81)).heap.size = WS.heap.size + 1 by simp] at this
      exact this⟩)
  rw [hWS] at R0
  obtain ⟨o4, ho4⟩ : ∃ o4, o4 = o / 4 := ⟨_, rfl⟩
  have q4 : Int.tdiv (o : Int) 4 = (o4 : Int) := by rw [ho4]; rfl
  have hko : ¬ (n : Int) > (o : Int) := by omega
  have hpp : ¬ (p : Int) > 0 := by omega
  have hpe : ((p : Int) == 0) = true := by simp; omega
  have hlz0 : ¬ lz > 0 := by rw [elz]; simp
  have HNL := Lib.hid hNL
  have HN := Lib.hid hn
  have HKD := Lib.hid KD
  have HRD := Lib.hid (show d.r = ⟨r1, r2, r3, r4⟩ by rw [er1, er2, er3, er4])
  have HD5 := Lib.hid d5
  have HD6 := Lib.hid (show ∀ k ∈ kidsOf σ u.b, _ from by rw [KD]; exact d6)
  have HU := Lib.hid hu
  have HUL := Lib.hid hul
  have HEB := Lib.hid eb
  have HEG := Lib.hid eg
  have HCE := Lib.hid CE
  have HBB := Lib.hid hB
  have HND2 := Lib.hid hnd2
  have HLV := Lib.hid hlv
  have HIT := Lib.hid hit
  have HEV := Lib.hid EV
  have HLZ := Lib.hid elz
  clear hp0
  unfold ptr at x2 y2 ⊢
  clear hWN BN hNL hn SEE2 hWS hsz b1 d3 d4 ho4 CE TC HLK mf MF hp1 hLp hu hB hnd hnd2 hlv hit d6 d5 d1 d2 eb eg er1 er2 er3 er4 elz hul KD RD hx1 EV
  go_enter Tryz.func27, Tryz.ntmps27
  go_wp2_with fail
  go_loopw [7] (fun vi wr => LoR w1 x m2 (.slice (some ⟨gL, 0, none⟩) NL cL) o t L σ B items u W W.heap.size (W.heap.size + 1) vi wr) (fun vi _ => n - (intOf vi).toNat)
  case atStart => exact R0.out
  case round =>
    clear R0 x0 x1 x2 x3 x4 x5 xf y0 y1 y2 y3 y4 y5 n0 nf m0 a0 a1 a2 a3 a4 a5
    obtain ⟨j, rfl, hj, hLO⟩ := hrel
    rw [HKD.out, ← HN.out] at hj
    have LO := Lib.hid hLO
    by_cases hlt : j < n
    · have hlz : (j : Int) < (n : Int) := by omega
      have hj0 : (0 : Int) ≤ (j : Int) := by omega
      obtain ⟨k, hk⟩ : ∃ k, (kidsOf σ u.b)[j]? = some k := ⟨_, List.getElem?_eq_getElem (by rw [HKD.out, ← HN.out]; exact hlt)⟩
      have hkm := List.mem_of_getElem? hk
      have HK := Lib.hid hk
      have hkG : k ∈ G := HLV.out k (by
        show k ∈ (kidsOf σ u.b).flatMap (lvs σ 0)
        exact List.mem_flatMap.2 ⟨k, hkm, by simp [lvs]⟩)
      obtain ⟨ik, eik⟩ : ∃ ik, ik = idOf σ k := ⟨_, rfl⟩
      have kn : (u.kids σ)[j]? = some ik := by
        unfold Tn.kids
        rw [if_pos HUL.out, List.getElem?_map, hk, eik]
        rfl
      obtain ⟨wo, hwo⟩ : ∃ v, v = wr.alloc (.cells #[.int .i64 0, .int .i64 0, .int .i64 0, .int .i64 0] 26) := ⟨_, rfl⟩
      have bo : Below wr.heap.size wr wo := by rw [hwo]; exact (Below.refl _ _).alloc (Nat.le_refl _) _
      have LKo := hLO.lk.later bo
      obtain ⟨x0, x1, x2, x3, x4, x5, xf⟩ := LKo.cells
      have nlt : W.heap.size < wr.heap.size := (Array.getElem?_eq_some_iff.1 hLO.nn).1
      have rlt : W.heap.size + 1 < wr.heap.size := (Array.getElem?_eq_some_iff.1 hLO.rr).1
      have nno := (bo.block _ nlt).trans hLO.nn
      rw [HCE.out] at nno
      have rro := (bo.block _ rlt).trans hLO.rr
      have oo : wo.heap[wr.heap.size]? = some (.cells #[.int .i64 0, .int .i64 0, .int .i64 0, .int .i64 0] 26 (0, 0)) := by rw [hwo]; exact (MapKept.heap_alloc wr _).1
      have ck : wo.cell? ⟨g, j, none⟩ = some (.int .i64 ik) := by
        obtain ⟨j1, j2⟩ := List.getElem?_eq_some_iff.1 kn
        rw [HEG.out, cell_later LKo.below ((HEV.out.kids u (List.mem_of_getElem? HU.out)).cell j j1), j2]
      have e0 : wo.cell? ⟨W.heap.size, 0, none⟩ = some (.int .i64 lz) := by simp [World.cell?, nno]
      have e5 : wo.cell? ⟨W.heap.size, 5, none⟩ = some (.slice (some ⟨g, 0, none⟩) n n) := by simp [World.cell?, nno]
      have hlb : (lz == 0) = true := by rw [HLZ.out]; simp
      have hol : wr.heap.size < wo.heap.size := (Array.getElem?_eq_some_iff.1 oo).1
      obtain ⟨kr, ekr⟩ : ∃ kr, kr = rOf σ k := ⟨_, rfl⟩
      have CG := Lib.hid (show ∀ Wz, Below wo.heap.size wo Wz → Calls Tryz.prog 14 #[.pointer (some ⟨t, 0, none⟩), .int .i64 ik] Wz fun e w' => e = .returned (.tuple #[.agg #[.int .i64 kr.x1, .int .i64 kr.y1, .int .i64 kr.x2, .int .i64 kr.y2], .bool true]) ∧ Below Wz.heap.size Wz w' from fun Wz hz => by
        have ix := HEV.out.idx.later (LKo.below.trans (hz.mono LKo.below.size))
        have hM := (ix.known ik k).2 ⟨hkG, eik.symm⟩
        refine Calls.mono (get_any t o mb root h σ V M G ik Wz ix (by rw [eik]; exact HEV.out.wf k hkG)) ?_
        rintro e w' ⟨hb, ⟨hn, _⟩ | ⟨k', d', h1, h2, h3⟩⟩
        · rw [hM] at hn; cases hn
        · rw [hM] at h1
          cases h1
          refine ⟨?_, hb⟩
          rw [h3, ekr, rOf_some h2])
      have kgl := (HEV.out.kids u (List.mem_of_getElem? HU.out)).lt
      rw [← HEG.out] at kgl
      have hw1 : w1.heap.size ≤ W.heap.size := HLKh.out.below.size
      have bsz := bo.size
      have HS : Hid (∀ Wz, Below wo.heap.size wo Wz → (fun Wz : World => Wz.cell? ⟨x, 2, none⟩ = some (.pointer (some ⟨t, 0, none⟩)) ∧ Wz.cell? ⟨W.heap.size, 5, none⟩ = some (.slice (some ⟨g, 0, none⟩) n n) ∧ Wz.cell? ⟨g, j, none⟩ = some (.int .i64 ik) ∧ Below wo.heap.size wo Wz) Wz) := Lib.hid fun Wz hz => by
        have hc : ∀ (q a : Nat) (y : Value), q < wo.heap.size → wo.cell? ⟨q, a, none⟩ = some y → Wz.cell? ⟨q, a, none⟩ = some y := fun q a y hq hy =>
          (World.cell?_of_block (w := wo) (w' := Wz) (a := ⟨q, a, none⟩) (hz.block q hq)).trans hy
        exact ⟨hc _ _ _ (by omega) x2, hc _ _ _ (by omega) e5, hc _ _ _ (by omega) ck, hz⟩
      have EKR := Lib.hid ekr
      have HWO := Lib.hid hwo
      have NLT := Lib.hid (And.intro nlt (And.intro rlt hol))
      have NNO := Lib.hid nno
      have RRO := Lib.hid rro
      have OOO := Lib.hid oo
      have LO1 := Lib.hid LKo
      have BO := Lib.hid bo
      have EIK := Lib.hid eik
      rw [hwo] at e0
      clear hkm hkG kn bo LKo nno rro oo hwo hLO ck e5 x0 x1 x2 x3 x4 x5 xf ekr hk eik kgl
      go_wp2_with fail
      rw [← HWO.out]
      go_cut [9, 10] from 86 to 177 (fun s9 s10 wx => CutI wo kr s9 s10 wx)
      case first =>
        refine wp_region_held_drew (S := (fun Wz : World => Wz.cell? ⟨x, 2, none⟩ = some (.pointer (some ⟨t, 0, none⟩)) ∧ Wz.cell? ⟨W.heap.size, 5, none⟩ = some (.slice (some ⟨g, 0, none⟩) n n) ∧ Wz.cell? ⟨g, j, none⟩ = some (.int .i64 ik) ∧ Below wo.heap.size wo Wz)) (by kernel_rfl) (HS.out _ (Below.drew (Below.refl _ _))) (fun hHeld => ?_)
        refine wpAnyH_take (i := 0) (v := ?vQ0) rfl (by kernel_rfl) (by kernel_rfl) (by kernel_rfl) (fun _ _ _ h => h) (Or.inl ⟨by rfl, ?yQ0⟩) hHeld ?rQ0
        case yQ0 => (intro W hSw; simp only [List.getElem_toArray, List.getElem_cons_zero]; go_simp; try (with_reducible rfl))
        simp only [List.getElem_toArray, List.getElem_cons_zero, Act.put, List.setIfInBounds_toArray, List.set_cons_zero, List.set_cons_succ]
        refine wpAnyH_take (i := 1) (v := ?vQ1) rfl (by kernel_rfl) (by kernel_rfl) (by kernel_rfl) (fun _ _ _ h => h) (Or.inl ⟨by rfl, ?yQ1⟩) hHeld ?rQ1
        case yQ1 => (intro W hSw; simp only [List.getElem_toArray, List.getElem_cons_succ, List.getElem_cons_zero]; go_simp; try (with_reducible rfl))
        simp only [List.getElem_toArray, List.getElem_cons_succ, List.getElem_cons_zero, Act.put, List.setIfInBounds_toArray, List.set_cons_zero, List.set_cons_succ]
        refine wpAnyH_take (i := 2) (v := ?vQ2) rfl (by kernel_rfl) (by kernel_rfl) (by kernel_rfl) (fun _ _ _ h => h) (Or.inl ⟨by rfl, ?yQ2⟩) hHeld ?rQ2
        case yQ2 => (intro W hSw; simp only [List.getElem_toArray, List.getElem_cons_succ, List.getElem_cons_zero]; go_simp; try (with_reducible rfl))
        simp only [List.getElem_toArray, List.getElem_cons_succ, List.getElem_cons_zero, Act.put, List.setIfInBounds_toArray, List.set_cons_zero, List.set_cons_succ]
        refine wpAnyH_take (i := 3) (v := ?vQ3) rfl (by kernel_rfl) (by kernel_rfl) (by kernel_rfl) (fun _ _ _ h => h) (Or.inl ⟨by rfl, ?yQ3⟩) hHeld ?rQ3
        case yQ3 => (intro W hSw; simp only [List.getElem_toArray, List.getElem_cons_succ, List.getElem_cons_zero]; go_simp; try (with_reducible rfl))
        simp only [List.getElem_toArray, List.getElem_cons_succ, List.getElem_cons_zero, Act.put, List.setIfInBounds_toArray, List.set_cons_zero, List.set_cons_succ]
        refine wpAnyH_take (i := 4) (v := ?vQ4) rfl (by kernel_rfl) (by kernel_rfl) (by kernel_rfl) (fun _ _ _ h => h) (Or.inl ⟨by rfl, ?yQ4⟩) hHeld ?rQ4
        case yQ4 => (intro W hSw; simp only [List.getElem_toArray, List.getElem_cons_succ, List.getElem_cons_zero]; go_simp; try (with_reducible rfl))
        simp only [List.getElem_toArray, List.getElem_cons_succ, List.getElem_cons_zero, Act.put, List.setIfInBounds_toArray, List.set_cons_zero, List.set_cons_succ]
        refine wpAnyH_take (i := 5) (v := ?vQ5) rfl (by kernel_rfl) (by kernel_rfl) (by kernel_rfl) (fun _ _ _ h => h) (Or.inl ⟨by rfl, ?yQ5⟩) hHeld ?rQ5
        case yQ5 => (intro W hSw; simp only [List.getElem_toArray, List.getElem_cons_succ, List.getElem_cons_zero]; go_simp; try (with_reducible rfl))
        simp only [List.getElem_toArray, List.getElem_cons_succ, List.getElem_cons_zero, Act.put, List.setIfInBounds_toArray, List.set_cons_zero, List.set_cons_succ]
        refine wpAnyH_take (i := 6) (v := ?vQ6) rfl (by kernel_rfl) (by kernel_rfl) (by kernel_rfl) (fun _ _ _ h => h) (Or.inl ⟨by rfl, ?yQ6⟩) hHeld ?rQ6
        case yQ6 => (intro W hSw; simp only [List.getElem_toArray, List.getElem_cons_succ, List.getElem_cons_zero]; go_simp; try (with_reducible rfl))
        simp only [List.getElem_toArray, List.getElem_cons_succ, List.getElem_cons_zero, Act.put, List.setIfInBounds_toArray, List.set_cons_zero, List.set_cons_succ]
        refine wpAnyH_take (i := 7) (v := ?vQ7) rfl (by kernel_rfl) (by kernel_rfl) (by kernel_rfl) (fun _ _ _ h => h) (Or.inl ⟨by rfl, ?yQ7⟩) hHeld ?rQ7
        case yQ7 => (intro W hSw; simp only [List.getElem_toArray, List.getElem_cons_succ, List.getElem_cons_zero]; go_simp; try (with_reducible rfl))
        simp only [List.getElem_toArray, List.getElem_cons_succ, List.getElem_cons_zero, Act.put, List.setIfInBounds_toArray, List.set_cons_zero, List.set_cons_succ]
        refine wpAnyH_take (i := 8) (v := ?vQ8) rfl (by kernel_rfl) (by kernel_rfl) (by kernel_rfl) (fun _ _ _ h => h) (Or.inl ⟨by rfl, ?yQ8⟩) hHeld ?rQ8
        case yQ8 => (intro W hSw; simp only [List.getElem_toArray, List.getElem_cons_succ, List.getElem_cons_zero]; go_simp; try (with_reducible rfl))
        simp only [List.getElem_toArray, List.getElem_cons_succ, List.getElem_cons_zero, Act.put, List.setIfInBounds_toArray, List.set_cons_zero, List.set_cons_succ]
        refine wpAnyH_ready (rs := [9, 13]) (by kernel_rfl) (by simp) (AllReadyH.cons rfl (fun K hK => ?_) (AllReadyH.cons rfl (fun K hK => ?_) AllReadyH.nil))
        · simp only [List.getElem_toArray, List.getElem_cons_succ, List.getElem_cons_zero]
          go_simp
          go_at_call 14
          refine Calls.mono (CG.out _ hHeld.2.2.2) ?_
          rintro e wg ⟨rfl, hbg⟩
          have BG := Lib.hid (hHeld.2.2.2.trans (hbg.mono hHeld.2.2.2.size))
          refine hK.out _ _ (by exact HS.out _ BG.out) (fun hHeld1 => ?_)
          clear hK K hHeld hbg
          have hHeld := hHeld1; clear hHeld1
          try simp only [List.getElem_toArray, List.getElem_cons_succ, List.getElem_cons_zero, Act.put, List.setIfInBounds_toArray, List.set_cons_zero, List.set_cons_succ]
          refine wpAnyH_take (i := 10) (v := ?vA10) rfl (by kernel_rfl) (by kernel_rfl) (by kernel_rfl) (fun _ _ _ h => h) (Or.inl ⟨by rfl, ?yA10⟩) hHeld ?rA10
          case yA10 => (intro W hSw; simp only [List.getElem_toArray, List.getElem_cons_succ, List.getElem_cons_zero]; go_simp; try (with_reducible rfl))
          simp only [List.getElem_toArray, List.getElem_cons_succ, List.getElem_cons_zero, Act.put, List.setIfInBounds_toArray, List.set_cons_zero, List.set_cons_succ]
          refine wpAnyH_take (i := 11) (v := ?vA11) rfl (by kernel_rfl) (by kernel_rfl) (by kernel_rfl) (fun _ _ _ h => h) (Or.inl ⟨by rfl, ?yA11⟩) hHeld ?rA11
          case yA11 => (intro W hSw; simp only [List.getElem_toArray, List.getElem_cons_succ, List.getElem_cons_zero]; go_simp; try (with_reducible rfl))
          simp only [List.getElem_toArray, List.getElem_cons_succ, List.getElem_cons_zero, Act.put, List.setIfInBounds_toArray, List.set_cons_zero, List.set_cons_succ]
          refine wpAnyH_take (i := 12) (v := ?vA12) rfl (by kernel_rfl) (by kernel_rfl) (by kernel_rfl) (fun _ _ _ h => h) (Or.inl ⟨by rfl, ?yA12⟩) hHeld ?rA12
          case yA12 => (intro W hSw; simp only [List.getElem_toArray, List.getElem_cons_succ, List.getElem_cons_zero]; go_simp; try (with_reducible rfl))
          simp only [List.getElem_toArray, List.getElem_cons_succ, List.getElem_cons_zero, Act.put, List.setIfInBounds_toArray, List.set_cons_zero, List.set_cons_succ]
          refine wpAnyH_ready (rs := [13]) (by kernel_rfl) (by simp) (AllReadyH.cons rfl (fun K hK => ?_) AllReadyH.nil)
          simp only [List.getElem_toArray, List.getElem_cons_succ, List.getElem_cons_zero]
          go_simp
          obtain ⟨wi, hwi⟩ : ∃ v, v = wg.alloc (.cells #[.int .i64 0, .int .i64 0, .int .i64 0, .int .i64 0] 26) := ⟨_, rfl⟩
          rw [← hwi]
          have BI := Lib.hid (show Below wo.heap.size wo wi by rw [hwi]; exact (BG.out).alloc BG.out.size _)
          have IB := Lib.hid (show wi.heap[wg.heap.size]? = some (.cells (rC ⟨0, 0, 0, 0⟩) 26 (0, 0)) by rw [hwi]; exact (MapKept.heap_alloc wg _).1)
          clear hwi
          refine hK.out _ _ (by exact HS.out _ BI.out) (fun hHeld1 => ?_)
          clear hK K hHeld
          have hHeld := hHeld1; clear hHeld1
          try simp only [List.getElem_toArray, List.getElem_cons_succ, List.getElem_cons_zero, Act.put, List.setIfInBounds_toArray, List.set_cons_zero, List.set_cons_succ]
          refine wpAnyH_ready (rs := [14]) (by kernel_rfl) (by simp) (AllReadyH.cons rfl (fun K hK => ?_) AllReadyH.nil)
          simp only [List.getElem_toArray, List.getElem_cons_succ, List.getElem_cons_zero]
          obtain ⟨i0, i1, i2, i3, i4⟩ := rc_cells IB.out
          go_simp
          have SB := Lib.hid (setF_below BI.out (b := wg.heap.size) BG.out.size kr)
          have SO := Lib.hid (setF_obj (r := kr) IB.out)
          unfold setF at SB SO
          refine hK.out _ _ (by exact HS.out _ SB.out) (fun hHeld1 => ?_)
          clear hK K hHeld i0 i1 i2 i3 i4
          have hHeld := hHeld1; clear hHeld1
          try simp only [List.getElem_toArray, List.getElem_cons_succ, List.getElem_cons_zero, Act.put, List.setIfInBounds_toArray, List.set_cons_zero, List.set_cons_succ]
          refine wpAnyH_take (i := 15) (v := ?vA215) rfl (by kernel_rfl) (by kernel_rfl) (by kernel_rfl) (fun _ _ _ h => h) (Or.inl ⟨by rfl, ?yA215⟩) hHeld ?rA215
          case yA215 => (intro W hSw; simp only [List.getElem_toArray, List.getElem_cons_succ, List.getElem_cons_zero]; go_simp; try (with_reducible rfl))
          simp only [List.getElem_toArray, List.getElem_cons_succ, List.getElem_cons_zero, Act.put, List.setIfInBounds_toArray, List.set_cons_zero, List.set_cons_succ]
          refine wpAnyH_done (by kernel_rfl) ?_ _
          go_wp2_with fail
          go_meet
          case rel => exact ⟨_, rfl, rfl, BG.out.size, SO.out, SB.out⟩
        · simp only [List.getElem_toArray, List.getElem_cons_succ, List.getElem_cons_zero]
          go_simp
          obtain ⟨wi, hwi⟩ : ∃ v, v = (wo.alloc (.cells #[.int .i64 0, .int .i64 0, .int .i64 0, .int .i64 0] 26)).drew := ⟨_, rfl⟩
          rw [← hwi]
          have BI := Lib.hid (show Below wo.heap.size wo wi by rw [hwi]; exact ((Below.refl _ _).alloc (Nat.le_refl _) _).drew)
          have IB := Lib.hid (show wi.heap[wo.heap.size]? = some (.cells (rC ⟨0, 0, 0, 0⟩) 26 (0, 0)) by rw [hwi]; exact (MapKept.heap_alloc wo _).1)
          clear hwi
          refine hK.out _ _ (by exact HS.out _ BI.out) (fun hHeld1 => ?_)
          clear hK K hHeld
          have hHeld := hHeld1; clear hHeld1
          try simp only [List.getElem_toArray, List.getElem_cons_succ, List.getElem_cons_zero, Act.put, List.setIfInBounds_toArray, List.set_cons_zero, List.set_cons_succ]
          refine wpAnyH_ready (rs := [9]) (by kernel_rfl) (by simp) (AllReadyH.cons rfl (fun K hK => ?_) AllReadyH.nil)
          simp only [List.getElem_toArray, List.getElem_cons_succ, List.getElem_cons_zero]
          go_simp
          go_at_call 14
          refine Calls.mono (CG.out _ hHeld.2.2.2) ?_
          rintro e wg ⟨rfl, hbg⟩
          have BG := Lib.hid (hHeld.2.2.2.trans (hbg.mono hHeld.2.2.2.size))
          have IBG := Lib.hid ((hbg.block _ (Array.getElem?_eq_some_iff.1 IB.out).1).trans IB.out)
          refine hK.out _ _ (by exact HS.out _ BG.out) (fun hHeld1 => ?_)
          clear hK K hHeld hbg
          have hHeld := hHeld1; clear hHeld1
          try simp only [List.getElem_toArray, List.getElem_cons_succ, List.getElem_cons_zero, Act.put, List.setIfInBounds_toArray, List.set_cons_zero, List.set_cons_succ]
          refine wpAnyH_take (i := 10) (v := ?vB10) rfl (by kernel_rfl) (by kernel_rfl) (by kernel_rfl) (fun _ _ _ h => h) (Or.inl ⟨by rfl, ?yB10⟩) hHeld ?rB10
          case yB10 => (intro W hSw; simp only [List.getElem_toArray, List.getElem_cons_succ, List.getElem_cons_zero]; go_simp; try (with_reducible rfl))
          simp only [List.getElem_toArray, List.getElem_cons_succ, List.getElem_cons_zero, Act.put, List.setIfInBounds_toArray, List.set_cons_zero, List.set_cons_succ]
          refine wpAnyH_take (i := 11) (v := ?vB11) rfl (by kernel_rfl) (by kernel_rfl) (by kernel_rfl) (fun _ _ _ h => h) (Or.inl ⟨by rfl, ?yB11⟩) hHeld ?rB11
          case yB11 => (intro W hSw; simp only [List.getElem_toArray, List.getElem_cons_succ, List.getElem_cons_zero]; go_simp; try (with_reducible rfl))
          simp only [List.getElem_toArray, List.getElem_cons_succ, List.getElem_cons_zero, Act.put, List.setIfInBounds_toArray, List.set_cons_zero, List.set_cons_succ]
          refine wpAnyH_take (i := 12) (v := ?vB12) rfl (by kernel_rfl) (by kernel_rfl) (by kernel_rfl) (fun _ _ _ h => h) (Or.inl ⟨by rfl, ?yB12⟩) hHeld ?rB12
          case yB12 => (intro W hSw; simp only [List.getElem_toArray, List.getElem_cons_succ, List.getElem_cons_zero]; go_simp; try (with_reducible rfl))
          simp only [List.getElem_toArray, List.getElem_cons_succ, List.getElem_cons_zero, Act.put, List.setIfInBounds_toArray, List.set_cons_zero, List.set_cons_succ]
          refine wpAnyH_ready (rs := [14]) (by kernel_rfl) (by simp) (AllReadyH.cons rfl (fun K hK => ?_) AllReadyH.nil)
          simp only [List.getElem_toArray, List.getElem_cons_succ, List.getElem_cons_zero]
          obtain ⟨i0, i1, i2, i3, i4⟩ := rc_cells IBG.out
          go_simp
          have SB := Lib.hid (setF_below BG.out (b := wo.heap.size) (Nat.le_refl _) kr)
          have SO := Lib.hid (setF_obj (r := kr) IBG.out)
          unfold setF at SB SO
          refine hK.out _ _ (by exact HS.out _ SB.out) (fun hHeld1 => ?_)
          clear hK K hHeld i0 i1 i2 i3 i4
          have hHeld := hHeld1; clear hHeld1
          try simp only [List.getElem_toArray, List.getElem_cons_succ, List.getElem_cons_zero, Act.put, List.setIfInBounds_toArray, List.set_cons_zero, List.set_cons_succ]
          refine wpAnyH_take (i := 15) (v := ?vB215) rfl (by kernel_rfl) (by kernel_rfl) (by kernel_rfl) (fun _ _ _ h => h) (Or.inl ⟨by rfl, ?yB215⟩) hHeld ?rB215
          case yB215 => (intro W hSw; simp only [List.getElem_toArray, List.getElem_cons_succ, List.getElem_cons_zero]; go_simp; try (with_reducible rfl))
          simp only [List.getElem_toArray, List.getElem_cons_succ, List.getElem_cons_zero, Act.put, List.setIfInBounds_toArray, List.set_cons_zero, List.set_cons_succ]
          refine wpAnyH_done (by kernel_rfl) ?_ _
          go_wp2_with fail
          go_meet
          case rel => exact ⟨_, rfl, rfl, Nat.le_refl _, SO.out, SB.out⟩

      obtain ⟨ib, rfl, rfl, hib, hobj, hbc⟩ := hcut
      obtain ⟨nlt, rlt, olt⟩ := NLT.out
      obtain ⟨it, eit⟩ : ∃ it, it = items + (((kidsOf σ u.b).take j).flatMap (lvs σ u.l)).length := ⟨_, rfl⟩
      have LKc := LO1.out.later hbc
      rw [← eit] at LKc
      have hitb : it + 1 ≤ 100000 := by
        have h1 : items + ((kidsOf σ u.b).flatMap (lvs σ 0)).length ≤ 100000 := HIT.out
        rw [flat_parts HK.out, List.length_append, List.length_append] at h1
        rw [eit, HUL.out]
        have : (lvs σ 0 k).length = 1 := by simp [lvs]
        omega
      have FINc := Lib.hid (show ∀ c, c ∈ ((kidsOf σ u.b).take j).flatMap (inn σ u.l) ++ (u.b :: B) ↔ c ∈ ((kidsOf σ u.b).take (j + 1)).flatMap (inn σ u.l) ++ (u.b :: B) from fun c => by
        rw [flat_snoc HK.out, HUL.out, show inn σ 0 k = [] from rfl, List.append_nil])
      have FINi := Lib.hid (show it + 1 = items + (((kidsOf σ u.b).take (j + 1)).flatMap (lvs σ u.l)).length from by
        rw [flat_snoc HK.out, eit, HUL.out, List.length_append, show lvs σ 0 k = [k] by simp [lvs]]
        rfl)
      have hbcz := hbc.size
      obtain ⟨i0, i1, i2, i3, -⟩ := rc_cells hobj
      have oc' : wc.heap[wr.heap.size]? = some (Obj.cells (rC ⟨0, 0, 0, 0⟩) 26 (0, 0)) := (hbc.block wr.heap.size olt).trans OOO.out
      obtain ⟨ov0, ov1, ov2, ov3, of⟩ := rc_cells oc'
      have rc' : wc.heap[W.heap.size + 1]? = some (Obj.cells (rC (hull σ ((kidsOf σ u.b).take j))) 26 (0, 0)) := (hbc.block _ (by omega)).trans RRO.out
      obtain ⟨hr, ehr⟩ : ∃ hr, hr = hull σ ((kidsOf σ u.b).take j) := ⟨_, rfl⟩
      rw [← ehr] at rc'
      have hx1 := HLKh.out.xl
      obtain ⟨ml, -, -⟩ := HLKh.out.m2l
      have KA : Ke (fun q => q = wr.heap.size) wc (setF wc wr.heap.size kr) := setF_ke _ _ _
      have LKA := LKc.far KA (by omega) (by omega) (fun q hq => by omega)
      obtain ⟨-, -, -, -, ax4, -, axf⟩ := LKA.cells
      have AO := setF_obj (r := kr) oc'
      have AR := (KA.block (W.heap.size + 1) (by omega) (by omega)).trans rc'
      obtain ⟨LKB0, KEB0⟩ := LKA.count
      obtain ⟨WB, hWB⟩ : ∃ v, v = (setF wc wr.heap.size kr).setCell ⟨x, 4, none⟩ (.int .i64 ((it : Int) + 1)) := ⟨_, rfl⟩
      have LKB : Lk w1 x m2 (.slice (some ⟨gL, 0, none⟩) NL cL) o t L (((kidsOf σ u.b).take j).flatMap (inn σ u.l) ++ (u.b :: B)) (it + 1) WB := by rw [hWB]; exact LKB0
      have KEB : Ke (fun k => k = x ∨ k = m2) (setF wc wr.heap.size kr) WB := by rw [hWB]; exact KEB0
      have hAz := KA.size
      have hBz := KEB.size
      have BO' := (KEB.block wr.heap.size (by omega) (by omega)).trans AO
      have BR := (KEB.block (W.heap.size + 1) (by omega) (by omega)).trans AR
      have KW : Ke (fun q => q = x ∨ q = m2 ∨ q = wr.heap.size ∨ q = W.heap.size + 1) wo WB :=
        ((Ke.of_below (X := fun q => q = x ∨ q = m2 ∨ q = wr.heap.size ∨ q = W.heap.size + 1) hbc).trans KA (fun g _ h => Or.inr (Or.inr (Or.inl h)))).trans KEB (fun g _ h => h.elim Or.inl (fun h => Or.inr (Or.inl h)))
      have MAY := Lib.hid (show may4 kr ∧ (j ≠ 0 → may4 hr) from by
        have hkm : ∀ q ∈ kidsOf σ u.b, may4 (rOf σ q) := fun q hq => (HD6.out q hq).may
        refine ⟨by rw [EKR.out]; exact hkm k (List.mem_of_getElem? HK.out), fun hj => ?_⟩
        rw [ehr]
        refine hullF_may fun r hr => ?_
        obtain ⟨q, hq, rfl⟩ := List.mem_map.1 hr
        exact hkm q (List.mem_of_mem_take hq))
      have EHR := Lib.hid ehr
      have hWBe := hWB
      unfold setF at hWBe
      have LKBh := Lib.hid LKB
      have KWh := Lib.hid KW
      have BRh := Lib.hid BR
      obtain ⟨bo0, bo1, bo2, bo3, -⟩ := rc_cells BO'
      obtain ⟨br0, br1, br2, br3, brf⟩ := rc_cells BR
      have BOh := Lib.hid BO'
      have HWB := Lib.hid hWBe
      rw [hWBe] at bo0 bo1 bo2 bo3 br0 br1 br2 br3 brf
      have ax4' : (setF wc wr.heap.size kr).cell? ⟨x, 4, none⟩ = some (.int .i64 (it : Int)) := ax4
      have axf' : ∀ c, (setF wc wr.heap.size kr).frozen? ⟨x, c, none⟩ = false := axf
      unfold setF at ax4' axf'
      clear hobj LKc LKA AO AR LKB0 KEB0 LKB KEB BO' BR KW KA hWB hWBe rc' oc' ehr ax4 axf eit hbc hAz hBz HS CG
      by_cases hj00 : j = 0
      · have hjb : ((j : Int) == 0) = true := by simp; omega
        have m1 := MAY.out.1
        have RES := Lib.hid (show hull σ ((kidsOf σ u.b).take (j + 1)) = joinR kr kr from by rw [hull_snoc HK.out, if_pos hj00, ← EKR.out])
        have CJ := Lib.hid (fun W => refJoin_any kr.x1 kr.y1 kr.x2 kr.y2 kr.x1 kr.y1 kr.x2 kr.y2 W (may_in2 m1).1 (may_in2 m1).2 (may_in2 m1).1 (may_in2 m1).2)
        obtain ⟨WC, hWC⟩ : ∃ v, v = setF WB (W.heap.size + 1) kr := ⟨_, rfl⟩
        have KC : Ke (fun q => q = W.heap.size + 1) WB WC := by rw [hWC]; exact setF_ke _ _ _
        have CR : WC.heap[W.heap.size + 1]? = some (Obj.cells (rC kr) 26 (0, 0)) := by rw [hWC]; exact setF_obj BRh.out
        have CO := (KC.block wr.heap.size (Array.getElem?_eq_some_iff.1 BOh.out).1 (by omega)).trans BOh.out
        obtain ⟨co0, co1, co2, co3, -⟩ := rc_cells CO
        obtain ⟨cr0, cr1, cr2, cr3, -⟩ := rc_cells CR
        have hWCe := hWC
        unfold setF at hWCe
        rw [HWB.out] at hWCe
        have HWC := Lib.hid hWCe
        have KCh := Lib.hid KC
        have CRh := Lib.hid CR
        rw [hWCe] at co0 co1 co2 co3 cr0 cr1 cr2 cr3
        clear m1 hj00 hWC hWCe KC CR CO
        go_wp2_with fail
        refine (CJ.out _).mono ?_
        rintro e w5 ⟨rfl, hb5⟩
        rw [← HWC.out] at hb5
        have r5 : w5.heap[W.heap.size + 1]? = some (Obj.cells (rC kr) 26 (0, 0)) := (hb5.block _ (Array.getElem?_eq_some_iff.1 CRh.out).1).trans CRh.out
        obtain ⟨s0, s1, s2, s3, sf⟩ := rc_cells r5
        have FIN := Lib.hid (show Lo w1 x m2 (.slice (some ⟨gL, 0, none⟩) NL cL) o t L σ B items u W W.heap.size (W.heap.size + 1) (j + 1) (setF w5 (W.heap.size + 1) (joinR kr kr)) from by
          refine Lo.next2 LO.out (by omega) ⟨by omega, by omega⟩ BO.out (((LKBh.out.far KCh.out (by omega) (by omega) (fun q hq => by omega)).later hb5).far (setF_ke w5 (W.heap.size + 1) (joinR kr kr)) (by omega) (by omega) (fun q hq => by omega)) ?_ ?_ FINc.out FINi.out
          · exact ((KWh.out.trans KCh.out (fun g _ h => Or.inr (Or.inr (Or.inr h)))).below hb5).trans (setF_ke w5 (W.heap.size + 1) (joinR kr kr)) (fun g _ h => Or.inr (Or.inr (Or.inr h)))
          · rw [RES.out]
            exact setF_obj r5)
        have HJN := Lib.hid (show j + 1 ≤ (kidsOf σ u.b).length by rw [HKD.out, ← HN.out]; omega)
        unfold setF joinR at FIN
        clear r5 hb5
        go_wp2_with fail
        go_roundw
        case rel => first | exact ⟨j + 1, by go_num, HJN.out, FIN.out⟩ | ((repeat apply Exists.intro); exact ⟨⟨j + 1, by go_num, HJN.out, FIN.out⟩, rfl⟩)
        case measure => simp [intOf]; omega

      · have hjb : ((j : Int) == 0) = false := by simp; omega
        have m1 := MAY.out.1
        have m2' := MAY.out.2 hj00
        have RES := Lib.hid (show hull σ ((kidsOf σ u.b).take (j + 1)) = joinR hr kr from by rw [hull_snoc HK.out, if_neg hj00, ← EKR.out, ← EHR.out])
        have CJ := Lib.hid (fun W => refJoin_any hr.x1 hr.y1 hr.x2 hr.y2 kr.x1 kr.y1 kr.x2 kr.y2 W (may_in2 m2').1 (may_in2 m2').2 (may_in2 m1).1 (may_in2 m1).2)
        clear m1 m2'
        go_wp2_with fail
        refine (CJ.out _).mono ?_
        rintro e w5 ⟨rfl, hb5⟩
        rw [← HWB.out] at hb5
        have r5 : w5.heap[W.heap.size + 1]? = some (Obj.cells (rC hr) 26 (0, 0)) := (hb5.block _ (Array.getElem?_eq_some_iff.1 BRh.out).1).trans BRh.out
        obtain ⟨s0, s1, s2, s3, sf⟩ := rc_cells r5
        have FIN := Lib.hid (show Lo w1 x m2 (.slice (some ⟨gL, 0, none⟩) NL cL) o t L σ B items u W W.heap.size (W.heap.size + 1) (j + 1) (setF w5 (W.heap.size + 1) (joinR hr kr)) from by
          refine Lo.next2 LO.out (by omega) ⟨by omega, by omega⟩ BO.out ((LKBh.out.later hb5).far (setF_ke w5 (W.heap.size + 1) (joinR hr kr)) (by omega) (by omega) (fun q hq => by omega)) ?_ ?_ FINc.out FINi.out
          · exact ((KWh.out).below hb5).trans (setF_ke w5 (W.heap.size + 1) (joinR hr kr)) (fun g _ h => Or.inr (Or.inr (Or.inr h)))
          · rw [RES.out]
            exact setF_obj r5)
        have HJN := Lib.hid (show j + 1 ≤ (kidsOf σ u.b).length by rw [HKD.out, ← HN.out]; omega)
        unfold setF joinR at FIN
        clear r5 hb5
        go_wp2_with fail
        go_roundw
        case rel => first | exact ⟨j + 1, by go_num, HJN.out, FIN.out⟩ | ((repeat apply Exists.intro); exact ⟨⟨j + 1, by go_num, HJN.out, FIN.out⟩, rfl⟩)
        case measure => simp [intOf]; omega


    · have hlz : ¬ (j : Int) < (n : Int) := by omega
      have hk : (kidsOf σ u.b).take j = kidsOf σ u.b := List.take_of_length_le (by rw [HKD.out, ← HN.out]; omega)
      have hR := hLO.rr
      rw [hk, HKD.out, ← HD5.out, HRD.out] at hR
      have hN2 := hLO.nn
      rw [HCE.out] at hN2
      have c0 : wr.cell? ⟨W.heap.size + 1, 0, none⟩ = some (.int .i64 r1) := by simp [World.cell?, hR, rC]
      have c1 : wr.cell? ⟨W.heap.size + 1, 1, none⟩ = some (.int .i64 r2) := by simp [World.cell?, hR, rC]
      have c2 : wr.cell? ⟨W.heap.size + 1, 2, none⟩ = some (.int .i64 r3) := by simp [World.cell?, hR, rC]
      have c3 : wr.cell? ⟨W.heap.size + 1, 3, none⟩ = some (.int .i64 r4) := by simp [World.cell?, hR, rC]
      have e1 : wr.cell? ⟨W.heap.size, 1, none⟩ = some (.int .i64 r1) := by simp [World.cell?, hN2]
      have e2 : wr.cell? ⟨W.heap.size, 2, none⟩ = some (.int .i64 r2) := by simp [World.cell?, hN2]
      have e3 : wr.cell? ⟨W.heap.size, 3, none⟩ = some (.int .i64 r3) := by simp [World.cell?, hN2]
      have e4 : wr.cell? ⟨W.heap.size, 4, none⟩ = some (.int .i64 r4) := by simp [World.cell?, hN2]
      have q5 := neq_four r1 r2 r3 r4
      have FIN := Lib.hid (show NodeE w1 x m2 (.slice (some ⟨gL, 0, none⟩) NL cL) o t L σ B items u.b 0 W (.returned (.tuple #[])) wr from by
        have h1 := hLO.lk
        rw [hk] at h1
        refine ⟨rfl, ?_, hLO.ke⟩
        rw [HUL.out] at h1
        refine Lk.congr (B := (kidsOf σ u.b).flatMap (inn σ 0) ++ (u.b :: B)) h1 fun c => ?_
        show _ ↔ c ∈ (u.b :: (kidsOf σ u.b).flatMap (inn σ 0)) ++ B
        simp only [List.mem_append, List.mem_cons, List.cons_append]
        constructor
        · rintro (h | h | h)
          · exact Or.inr (Or.inl h)
          · exact Or.inl h
          · exact Or.inr (Or.inr h)
        · rintro (h | h | h)
          · exact Or.inr (Or.inl h)
          · exact Or.inl h
          · exact Or.inr (Or.inr h))
      clear hR hN2 hk hLO LO hj hlt
      go_wp2_with fail
      refine bodyPost_end (v := .tuple #[]) ?hv ?hd ?hr
      case hv => simp [results, Tryz.results27, go_sem]
      case hd => rfl
      case hr => exact FIN.out
end Go.Proofs.YtobkgamcjfjghaaGreat.Rt
