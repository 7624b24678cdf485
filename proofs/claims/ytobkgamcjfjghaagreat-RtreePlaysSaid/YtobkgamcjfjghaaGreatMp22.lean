/-
  Contract of the law's Look.node at a node above others: nothing is amiss.
-/
import Derived.Test.YtobkgamcjfjghaaGreatMp21
namespace Go.Proofs.YtobkgamcjfjghaaGreat.Rt
open Go.RowKit Go.Joins Go.Proofs.YtobkgamcjfjghaaGreat.Pt Go.Proofs.YtobkgamcjfjghaaGreat.Rc Go.Proofs.YtobkgamcjfjghaaGreat.Rs
set_option linter.unusedVariables false
set_option linter.unusedSimpArgs false
set_option maxHeartbeats 8000000
set_option maxRecDepth 100000

theorem node_inner (w1 : World) (σ : St) (V : Nat → Value) (t o mb root h : Nat) (M : Int → Option Nat) (G : List Nat) (gL cL : Nat) (L : List (Nat × Nat)) (T : List Tn) (x m2 : Nat) (EV : Ev w1 σ V t o mb root h M G gL L T) (o1 : 4 ≤ o) (o2 : o ≤ 16) (l : Nat) (IH : ∀ (p : Nat) (u : Tn) (B : List Nat) (items : Nat) (W : World), T[p]? = some u → u.l = l → 0 < p → Nd σ (leastN o) o (l + 1) u.b → (∀ c ∈ inn σ (l + 1) u.b, c ∉ B) → (inn σ (l + 1) u.b).Nodup → (∀ c ∈ lvs σ (l + 1) u.b, c ∈ G) → items + (lvs σ (l + 1) u.b).length ≤ 100000 → Lk w1 x m2 (.slice (some ⟨gL, 0, none⟩) L.length cL) o t L B items W → Calls Tryz.prog 27 #[ptr x, .int .i64 (p : Int)] W (NodeE w1 x m2 (.slice (some ⟨gL, 0, none⟩) L.length cL) o t L σ B items u.b l W)) (p : Nat) (u : Tn) (B : List Nat) (items : Nat) (W : World) (hlm : l ≤ 100000) (hu : T[p]? = some u) (hul : u.l = (l + 1)) (hp0 : 0 < p) (hnd : Nd σ (leastN o) o ((l + 1) + 1) u.b) (hB : ∀ c ∈ inn σ ((l + 1) + 1) u.b, c ∉ B) (hnd2 : (inn σ ((l + 1) + 1) u.b).Nodup) (hlv : ∀ c ∈ lvs σ ((l + 1) + 1) u.b, c ∈ G) (hit : items + (lvs σ ((l + 1) + 1) u.b).length ≤ 100000) (HLK : Lk w1 x m2 (.slice (some ⟨gL, 0, none⟩) L.length cL) o t L B items W) :
    Calls Tryz.prog 27 #[ptr x, .int .i64 (p : Int)] W (NodeE w1 x m2 (.slice (some ⟨gL, 0, none⟩) L.length cL) o t L σ B items u.b (l + 1) W) := by
  have hp1 := (List.getElem?_eq_some_iff.1 hu).1
  rw [EV.len] at hp1
  have hLp := EV.at hu
  obtain ⟨d, d1, d2, d3, d4, d5, d6⟩ := id hnd
  have KD : kidsOf σ u.b = d.kids := kidsOf_some d1
  have RD : rOf σ u.b = d.r := rOf_some d1
  obtain ⟨b, eb⟩ : ∃ b, b = u.b := ⟨_, rfl⟩
  obtain ⟨g, eg⟩ : ∃ g, g = u.g := ⟨_, rfl⟩
  obtain ⟨n, hn⟩ : ∃ n, n = d.kids.length := ⟨_, rfl⟩
  obtain ⟨r1, er1⟩ : ∃ r1, r1 = d.r.x1 := ⟨_, rfl⟩
  obtain ⟨r2, er2⟩ : ∃ r2, r2 = d.r.y1 := ⟨_, rfl⟩
  obtain ⟨r3, er3⟩ : ∃ r3, r3 = d.r.x2 := ⟨_, rfl⟩
  obtain ⟨r4, er4⟩ : ∃ r4, r4 = d.r.y2 := ⟨_, rfl⟩
  obtain ⟨lz, elz⟩ : ∃ lz : Int, lz = ((l + 1) : Nat) := ⟨_, rfl⟩
  have CE : Tn.cells σ u = (#[.int .i64 lz, .int .i64 r1, .int .i64 r2, .int .i64 r3, .int .i64 r4, .slice (some ⟨g, 0, none⟩) n n] : Array Value).toList := by
    unfold Tn.cells
    rw [RD, KD, er1, er2, er3, er4, hn, hul, eg, elz]
  have TC := EV.told p u hu
  rw [CE] at TC
  have a0 : W.cell? ⟨gL, p * 6, none⟩ = some (.int .i64 lz) := cell_later HLK.below (TC 0 (by omega))
  have a1 : W.cell? ⟨gL, p * 6 + 1, none⟩ = some (.int .i64 r1) := cell_later HLK.below (TC 1 (by omega))
  have a2 : W.cell? ⟨gL, p * 6 + 2, none⟩ = some (.int .i64 r2) := cell_later HLK.below (TC 2 (by omega))
  have a3 : W.cell? ⟨gL, p * 6 + 3, none⟩ = some (.int .i64 r3) := cell_later HLK.below (TC 3 (by omega))
  have a4 : W.cell? ⟨gL, p * 6 + 4, none⟩ = some (.int .i64 r4) := cell_later HLK.below (TC 4 (by omega))
  have a5 : W.cell? ⟨gL, p * 6 + 5, none⟩ = some (.slice (some ⟨g, 0, none⟩) n n) := cell_later HLK.below (TC 5 (by omega))
  obtain ⟨x0, x1, x2, x3, x4, x5, xf⟩ := HLK.cells
  obtain ⟨ml, ml2, mx⟩ := HLK.m2l
  have m0 : W.cell? ⟨m2, p, none⟩ = some (.bool false) := by
    rw [HLK.met.cellAt p (by omega), metL_at hLp, decide_eq_false (hB u.b (by simp [inn]))]
  have mf := HLK.met.frozenAt
  have xs : x < W.heap.size := (Array.getElem?_eq_some_iff.1 HLK.obj).1
  have hx1 := HLK.xl
  obtain ⟨NL, hNL⟩ : ∃ NL, NL = L.length := ⟨_, rfl⟩
  have MF : ∀ W', Below W.heap.size W W' → (∀ c, W'.frozen? ⟨m2, c, none⟩ = false) := fun W' hb c => (World.frozen?_of_block (w := W) (w' := W') (a := ⟨m2, c, none⟩) (hb.block m2 ml2)).trans (mf c)
  obtain ⟨WN, hWN⟩ : ∃ v, v = W.alloc (.cells #[.int .i64 lz, .int .i64 r1, .int .i64 r2, .int .i64 r3, .int .i64 r4, .slice (some ⟨g, 0, none⟩) n n] 81) := ⟨_, rfl⟩
  have BN : Below W.heap.size W WN := by rw [hWN]; exact (Below.refl _ _).alloc (Nat.le_refl _) _
  have y0 := cell_later BN x0
  have y1 := cell_later BN x1
  have y2 := cell_later BN x2
  have y3 := cell_later BN x3
  have y4 := cell_later BN x4
  have y5 := cell_later BN x5
  have n0 := cell_later BN m0
  have nf := MF WN BN
  have HLKh := Lib.hid HLK
  rw [hWN] at y0 y1 y2 y3 y4 y5 n0 nf
  rw [← hNL] at x0 x3 y0 y3 hp1 ⊢
  have hp1' : (p : Int) < (NL : Int) := by omega
  have hpz : ¬ (p : Int) < 0 := by omega
  have hpN : ¬ (p : Int) ≥ (NL : Int) := by omega
  have SEE2 := HLKh.out.see EV.nd hLp
  obtain ⟨WS, hWS⟩ : ∃ v, v = W.setCell ⟨m2, p, none⟩ (.bool true) := ⟨_, rfl⟩
  rw [← hWS] at SEE2
  have hsz : WS.heap.size = W.heap.size := by rw [hWS]; simp
  have b1 : Below WS.heap.size WS ((WS.alloc (.cells #[.int .i64 lz, .int .i64 r1, .int .i64 r2, .int .i64 r3, .int .i64 r4, .slice (some ⟨g, 0, none⟩) n n] 81)).alloc (.cells #[.int .i64 0, .int .i64 0, .int .i64 0, .int .i64 0] 26)) := ((Below.refl _ _).alloc (Nat.le_refl _) _).alloc (by simp) _
  have R0 := Lib.hid (show LoR w1 x m2 (.slice (some ⟨gL, 0, none⟩) NL cL) o t L σ B items u W W.heap.size (W.heap.size + 1) (.int .i64 0) ((WS.alloc (.cells #[.int .i64 lz, .int .i64 r1, .int .i64 r2, .int .i64 r3, .int .i64 r4, .slice (some ⟨g, 0, none⟩) n n] 81)).alloc (.cells #[.int .i64 0, .int .i64 0, .int .i64 0, .int .i64 0] 26)) from ⟨0, rfl, Nat.zero_le _, by
    refine ⟨?_, SEE2.2.below b1, ?_, ?_, Nat.le_refl _, by omega⟩
    · rw [List.take_zero, List.flatMap_nil, List.nil_append, List.flatMap_nil, List.length_nil, Nat.add_zero, hNL]
      exact SEE2.1.later b1
    · rw [CE, ← hsz]
      exact (((Below.refl _ _).alloc (Nat.le_refl _) _ : Below (WS.alloc (.cells #[.int .i64 lz, .int .i64 r1, .int .i64 r2, .int .i64 r3, .int .i64 r4, .slice (some ⟨g, 0, none⟩) n n] 81)).heap.size (WS.alloc (.cells #[.int .i64 lz, .int .i64 r1, .int .i64 r2, .int .i64 r3, .int .i64 r4, .slice (some ⟨g, 0, none⟩) n n] 81)) ((WS.alloc (.cells #[.int .i64 lz, .int .i64 r1, .int .i64 r2, .int .i64 r3, .int .i64 r4, .slice (some ⟨g, 0, none⟩) n n] 81)).alloc (.cells #[.int .i64 0, .int .i64 0, .int .i64 0, .int .i64 0] 26))).block WS.heap.size (by simp)).trans (MapKept.heap_alloc WS _).1
    · rw [List.take_zero, hull_nil, ← hsz]
      have := (MapKept.heap_alloc (WS.alloc (.cells #[.int .i64 lz, .int .i64 r1, .int .i64 r2, .int .i64 r3, .int .i64 r4, .slice (some ⟨g, 0, none⟩) n n] 81)) (.cells #[.int .i64 0, .int .i64 0, .int .i64 0, .int .i64 0] 26)).1
      rw [show (WS.alloc (.cells #[.int .i64 lz, .int .i64 r1, .int .i64 r2, .int .i64 r3, .int .i64 r4, .slice (some ⟨g, 0, none⟩) n n] 81)).heap.size = WS.heap.size + 1 by simp] at this
      exact this⟩)
  rw [hWS] at R0
  obtain ⟨o4, ho4⟩ : ∃ o4, o4 = o / 4 := ⟨_, rfl⟩
  have q4 : Int.tdiv (o : Int) 4 = (o4 : Int) := by rw [ho4]; rfl
  have hko : ¬ (n : Int) > (o : Int) := by omega
  have hpp : (p : Int) > 0 := by omega
  have hpe : ((p : Int) == 0) = false := by simp; omega
  have hkq : ¬ (n : Int) < (o4 : Int) + 1 := by unfold leastN at d3; omega
  have HNL := Lib.hid hNL
  have HN := Lib.hid hn
  have HKD := Lib.hid KD
  have HRD := Lib.hid (show d.r = ⟨r1, r2, r3, r4⟩ by rw [er1, er2, er3, er4])
  have HD5 := Lib.hid d5
  have HD6 := Lib.hid (show ∀ k ∈ kidsOf σ u.b, _ from by rw [KD]; exact d6)
  have HU := Lib.hid hu
  have HUL := Lib.hid hul
  have HEB := Lib.hid eb
  have HEG := Lib.hid eg
  have HCE := Lib.hid CE
  have HBB := Lib.hid hB
  have HND2 := Lib.hid hnd2
  have HLV := Lib.hid hlv
  have HIT := Lib.hid hit
  have HEV := Lib.hid EV
  have HLZ := Lib.hid elz
  clear hp0
  unfold ptr at x2 y2 ⊢
  clear hWN BN hNL hn SEE2 hWS hsz b1 d3 d4 ho4 CE TC HLK mf MF hp1 hLp hu hB hnd hnd2 hlv hit d6 d5 d1 d2 eb eg er1 er2 er3 er4 elz hul KD RD hx1 EV
  go_enter Tryz.func27, Tryz.ntmps27
  go_wp2_with fail
  go_loopw [7] (fun vi wr => LoR w1 x m2 (.slice (some ⟨gL, 0, none⟩) NL cL) o t L σ B items u W W.heap.size (W.heap.size + 1) vi wr) (fun vi _ => n - (intOf vi).toNat)
  case atStart => exact R0.out
  case round =>
    clear R0 x0 x1 x2 x3 x4 x5 xf y0 y1 y2 y3 y4 y5 n0 nf m0 a0 a1 a2 a3 a4 a5
    obtain ⟨j, rfl, hj, hLO⟩ := hrel
    rw [HKD.out, ← HN.out] at hj
    have LO := Lib.hid hLO
    by_cases hlt : j < n
    · have hlz : (j : Int) < (n : Int) := by omega
      have hj0 : (0 : Int) ≤ (j : Int) := by omega
      obtain ⟨k, hk⟩ : ∃ k, (kidsOf σ u.b)[j]? = some k := ⟨_, List.getElem?_eq_getElem (by rw [HKD.out, ← HN.out]; exact hlt)⟩
      obtain ⟨ps, kn, v, hv, vb, vl⟩ := HEV.out.kid HU.out HUL.out hk
      obtain ⟨s, es⟩ : ∃ s, s = u.s + j := ⟨_, rfl⟩
      rw [← es] at kn hv
      have hps : p < s := by omega
      have hkm := List.mem_of_getElem? hk
      have HK := Lib.hid hk
      obtain ⟨wo, hwo⟩ : ∃ v, v = wr.alloc (.cells #[.int .i64 0, .int .i64 0, .int .i64 0, .int .i64 0] 26) := ⟨_, rfl⟩
      have bo : Below wr.heap.size wr wo := by rw [hwo]; exact (Below.refl _ _).alloc (Nat.le_refl _) _
      have LKo := hLO.lk.later bo
      have nlt : W.heap.size < wr.heap.size := (Array.getElem?_eq_some_iff.1 hLO.nn).1
      have rlt : W.heap.size + 1 < wr.heap.size := (Array.getElem?_eq_some_iff.1 hLO.rr).1
      have nno := (bo.block _ nlt).trans hLO.nn
      rw [HCE.out] at nno
      have rro := (bo.block _ rlt).trans hLO.rr
      have oo : wo.heap[wr.heap.size]? = some (.cells #[.int .i64 0, .int .i64 0, .int .i64 0, .int .i64 0] 26 (0, 0)) := by rw [hwo]; exact (MapKept.heap_alloc wr _).1
      have ck : wo.cell? ⟨g, j, none⟩ = some (.int .i64 (s : Int)) := by
        obtain ⟨j1, j2⟩ := List.getElem?_eq_some_iff.1 kn
        rw [HEG.out, cell_later LKo.below ((HEV.out.kids u (List.mem_of_getElem? HU.out)).cell j j1), j2]
      have e0 : wo.cell? ⟨W.heap.size, 0, none⟩ = some (.int .i64 lz) := by simp [World.cell?, nno]
      have e5 : wo.cell? ⟨W.heap.size, 5, none⟩ = some (.slice (some ⟨g, 0, none⟩) n n) := by simp [World.cell?, nno]
      have hlb : (lz == 0) = false := by rw [HLZ.out]; simp; omega
      have hol : wr.heap.size < wo.heap.size := (Array.getElem?_eq_some_iff.1 oo).1
      have hBj : ∀ c ∈ inn σ (l + 1) v.b, c ∉ ((kidsOf σ u.b).take j).flatMap (inn σ u.l) ++ (u.b :: B) := by
        rw [vb, HUL.out]
        intro c hc
        have h1 : (u.b :: (kidsOf σ u.b).flatMap (inn σ (l + 1))).Nodup := HND2.out
        obtain ⟨h2, h3⟩ := List.nodup_cons.1 h1
        have hcm : c ∈ (kidsOf σ u.b).flatMap (inn σ (l + 1)) := List.mem_flatMap.2 ⟨k, hkm, hc⟩
        rw [flat_parts hk] at h3
        obtain ⟨_, _, h4⟩ := List.nodup_append.1 h3
        simp only [List.mem_append, List.mem_cons]
        rintro (h | h | h)
        · exact h4 c h c (List.mem_append_left _ hc) rfl
        · subst h; exact h2 hcm
        · exact HBB.out c (List.mem_cons_of_mem _ hcm) h
      have hnj : (inn σ (l + 1) v.b).Nodup := by
        rw [vb]
        have h1 : (u.b :: (kidsOf σ u.b).flatMap (inn σ (l + 1))).Nodup := HND2.out
        obtain ⟨h2, h3⟩ := List.nodup_cons.1 h1
        rw [flat_parts hk] at h3
        exact (List.nodup_append.1 (List.nodup_append.1 h3).2.1).1
      have hlvj : ∀ c ∈ lvs σ (l + 1) v.b, c ∈ G := by
        rw [vb]
        exact fun c hc => HLV.out c (List.mem_flatMap.2 ⟨k, hkm, hc⟩)
      have hitj : items + (((kidsOf σ u.b).take j).flatMap (lvs σ u.l)).length + (lvs σ (l + 1) v.b).length ≤ 100000 := by
        rw [vb, HUL.out]
        have h1 : items + ((kidsOf σ u.b).flatMap (lvs σ (l + 1))).length ≤ 100000 := HIT.out
        rw [flat_parts hk, List.length_append, List.length_append] at h1
        omega
      have CI := Lib.hid (IH s v _ _ wo hv vl (by omega) (by rw [vb]; exact HD6.out k hkm) hBj hnj hlvj hitj (by rw [← HNL.out]; exact LKo))
      rw [← HNL.out] at CI
      rw [hwo] at CI ck e0 e5
      have HWO := Lib.hid hwo
      have HV := Lib.hid hv
      have NLT := Lib.hid (And.intro nlt (And.intro rlt hol))
      have NNO := Lib.hid nno
      have RRO := Lib.hid rro
      have OOO := Lib.hid oo
      have LO1 := Lib.hid LKo
      have BO := Lib.hid bo
      clear hkm kn bo LKo nno rro oo hol hBj hnj hlvj hitj hwo hLO hv nlt rlt es ps hk
      unfold ptr at CI
      go_wp2_with fail
      refine Calls.mono CI.out ?_
      rintro e w3 ⟨rfl, LK3, KE3⟩
      rw [← HWO.out] at KE3
      have hw1 : w1.heap.size ≤ W.heap.size := HLKh.out.below.size
      obtain ⟨nlt, rlt, olt⟩ := NLT.out
      have nex : ∀ q, W.heap.size ≤ q → ¬ (q = x ∨ q = m2) := fun q hq e => by rcases e with e | e <;> omega
      have z3 := KE3.size
      have bsz := BO.out.size
      obtain ⟨x0, x1, x2, x3, x4, x5, xf⟩ := LK3.cells
      have n3 := (KE3.block W.heap.size (by omega) (nex _ (Nat.le_refl _))).trans NNO.out
      have r3 := (KE3.block (W.heap.size + 1) (by omega) (nex _ (by omega))).trans RRO.out
      have o3 := (KE3.block wr.heap.size olt (nex _ (by omega))).trans OOO.out
      obtain ⟨kr, ekr⟩ : ∃ kr, kr = rOf σ k := ⟨_, rfl⟩
      have TC := HEV.out.told s v HV.out
      have VC : Tn.cells σ v = [.int .i64 (l : Int), .int .i64 kr.x1, .int .i64 kr.y1, .int .i64 kr.x2, .int .i64 kr.y2, .slice (some ⟨v.g, 0, none⟩) (kidsOf σ k).length (kidsOf σ k).length] := by
        unfold Tn.cells
        rw [vb, vl, ekr]
      rw [VC] at TC
      have f0 : w3.cell? ⟨gL, s * 6, none⟩ = some (.int .i64 (l : Int)) := cell_later LK3.below (TC 0 (by omega))
      have f1 : w3.cell? ⟨gL, s * 6 + 1, none⟩ = some (.int .i64 kr.x1) := cell_later LK3.below (TC 1 (by omega))
      have f2 : w3.cell? ⟨gL, s * 6 + 2, none⟩ = some (.int .i64 kr.y1) := cell_later LK3.below (TC 2 (by omega))
      have f3 : w3.cell? ⟨gL, s * 6 + 3, none⟩ = some (.int .i64 kr.x2) := cell_later LK3.below (TC 3 (by omega))
      have f4 : w3.cell? ⟨gL, s * 6 + 4, none⟩ = some (.int .i64 kr.y2) := cell_later LK3.below (TC 4 (by omega))
      have hsT := (List.getElem?_eq_some_iff.1 HV.out).1
      rw [HEV.out.len, ← HNL.out] at hsT
      have hsz : (s : Int) < (NL : Int) := by omega
      have hs0 : (0 : Int) ≤ (s : Int) := by omega
      have kgl := (HEV.out.kids u (List.mem_of_getElem? HU.out)).lt
      rw [← HEG.out] at kgl
      have ggl := HEV.out.gl
      have ck3 : w3.cell? ⟨g, j, none⟩ = some (.int .i64 (s : Int)) := by
        have h1 : wo.cell? ⟨g, j, none⟩ = some (.int .i64 (s : Int)) := by rw [HWO.out]; exact ck
        exact (World.cell?_of_block (w := wo) (w' := w3) (a := ⟨g, j, none⟩) (KE3.block g (by omega) (fun e => by have h7 := HLKh.out.xl; have h8 := HLKh.out.m2l; rcases e with e | e <;> omega))).trans h1
      have g0 : w3.cell? ⟨W.heap.size, 0, none⟩ = some (.int .i64 lz) := by simp [World.cell?, n3]
      have g5 : w3.cell? ⟨W.heap.size, 5, none⟩ = some (.slice (some ⟨g, 0, none⟩) n n) := by simp [World.cell?, n3]
      have HS : Hid (∀ Wz, Ke (fun q => q = wr.heap.size) w3 Wz → (fun Wz : World => Wz.cell? ⟨x, 0, none⟩ = some (.slice (some ⟨gL, 0, none⟩) NL cL) ∧ Wz.cell? ⟨W.heap.size, 0, none⟩ = some (.int .i64 lz) ∧ Wz.cell? ⟨W.heap.size, 5, none⟩ = some (.slice (some ⟨g, 0, none⟩) n n) ∧ Wz.cell? ⟨g, j, none⟩ = some (.int .i64 (s : Int)) ∧ Wz.cell? ⟨gL, s * 6, none⟩ = some (.int .i64 (l : Int)) ∧ Wz.cell? ⟨gL, s * 6 + 1, none⟩ = some (.int .i64 kr.x1) ∧ Wz.cell? ⟨gL, s * 6 + 2, none⟩ = some (.int .i64 kr.y1) ∧ Wz.cell? ⟨gL, s * 6 + 3, none⟩ = some (.int .i64 kr.x2) ∧ Wz.cell? ⟨gL, s * 6 + 4, none⟩ = some (.int .i64 kr.y2)) Wz) := Lib.hid fun Wz hz => by
        have hc : ∀ (q a : Nat) (y : Value), q < wr.heap.size → w3.cell? ⟨q, a, none⟩ = some y → Wz.cell? ⟨q, a, none⟩ = some y := fun q a y hq hy =>
          (World.cell?_of_block (w := w3) (w' := Wz) (a := ⟨q, a, none⟩) (hz.block q (by omega) (by omega))).trans hy
        exact ⟨hc _ _ _ (by omega) x0, hc _ _ _ (by omega) g0, hc _ _ _ (by omega) g5, hc _ _ _ (by omega) ck3, hc _ _ _ (by omega) f0, hc _ _ _ (by omega) f1, hc _ _ _ (by omega) f2, hc _ _ _ (by omega) f3, hc _ _ _ (by omega) f4⟩
      have os0 : ∀ a, w3.frozen? ⟨wr.heap.size, a, none⟩ = false := fun a => by simp [World.frozen?, o3]
      have oc0 : w3.cell? ⟨wr.heap.size, 0, none⟩ = some (.int .i64 0) := by simp [World.cell?, o3]
      have oc1 : w3.cell? ⟨wr.heap.size, 1, none⟩ = some (.int .i64 0) := by simp [World.cell?, o3]
      have oc2 : w3.cell? ⟨wr.heap.size, 2, none⟩ = some (.int .i64 0) := by simp [World.cell?, o3]
      have oc3 : w3.cell? ⟨wr.heap.size, 3, none⟩ = some (.int .i64 0) := by simp [World.cell?, o3]
      have L3 := Lib.hid LK3
      have N3 := Lib.hid n3
      have R3 := Lib.hid r3
      have O3 := Lib.hid o3
      have K3 := Lib.hid KE3
      have EKR := Lib.hid ekr
      have hll : lz - 1 = (l : Int) := by rw [HLZ.out]; omega
      have hlm2 : lz ≤ 100001 := by rw [HLZ.out]; omega
      have hlm3 : (1 : Int) ≤ lz := by rw [HLZ.out]; omega
      have hsp : ¬ (s : Int) ≤ (p : Int) := by omega
      have dsp : decide ((s : Int) ≤ (p : Int)) = false := decide_eq_false hsp
      clear TC VC n3 r3 o3 LK3 KE3 ck e0 e5 ekr
      go_wp2_with fail
      refine wp_region_held_drew (S := (fun Wz : World => Wz.cell? ⟨x, 0, none⟩ = some (.slice (some ⟨gL, 0, none⟩) NL cL) ∧ Wz.cell? ⟨W.heap.size, 0, none⟩ = some (.int .i64 lz) ∧ Wz.cell? ⟨W.heap.size, 5, none⟩ = some (.slice (some ⟨g, 0, none⟩) n n) ∧ Wz.cell? ⟨g, j, none⟩ = some (.int .i64 (s : Int)) ∧ Wz.cell? ⟨gL, s * 6, none⟩ = some (.int .i64 (l : Int)) ∧ Wz.cell? ⟨gL, s * 6 + 1, none⟩ = some (.int .i64 kr.x1) ∧ Wz.cell? ⟨gL, s * 6 + 2, none⟩ = some (.int .i64 kr.y1) ∧ Wz.cell? ⟨gL, s * 6 + 3, none⟩ = some (.int .i64 kr.x2) ∧ Wz.cell? ⟨gL, s * 6 + 4, none⟩ = some (.int .i64 kr.y2))) (by kernel_rfl) (HS.out _ ((Ke.refl _ _).drew)) (fun hHeld => ?_)
      refine wpAnyH_take (i := 0) (v := ?vQ0) rfl (by kernel_rfl) (by kernel_rfl) (by kernel_rfl) (fun _ _ _ h => h) (Or.inl ⟨by rfl, ?yQ0⟩) hHeld ?rQ0
      case yQ0 => (intro W hSw; simp only [List.getElem_toArray, List.getElem_cons_zero]; go_simp; try (with_reducible rfl))
      simp only [List.getElem_toArray, List.getElem_cons_zero, Act.put, List.setIfInBounds_toArray, List.set_cons_zero, List.set_cons_succ]
      refine wpAnyH_take (i := 1) (v := ?vQ1) rfl (by kernel_rfl) (by kernel_rfl) (by kernel_rfl) (fun _ _ _ h => h) (Or.inl ⟨by rfl, ?yQ1⟩) hHeld ?rQ1
      case yQ1 => (intro W hSw; simp only [List.getElem_toArray, List.getElem_cons_succ, List.getElem_cons_zero]; go_simp; try (with_reducible rfl))
      simp only [List.getElem_toArray, List.getElem_cons_succ, List.getElem_cons_zero, Act.put, List.setIfInBounds_toArray, List.set_cons_zero, List.set_cons_succ]
      refine wpAnyH_take (i := 2) (v := ?vQ2) rfl (by kernel_rfl) (by kernel_rfl) (by kernel_rfl) (fun _ _ _ h => h) (Or.inl ⟨by rfl, ?yQ2⟩) hHeld ?rQ2
      case yQ2 => (intro W hSw; simp only [List.getElem_toArray, List.getElem_cons_succ, List.getElem_cons_zero]; go_simp; try (with_reducible rfl))
      simp only [List.getElem_toArray, List.getElem_cons_succ, List.getElem_cons_zero, Act.put, List.setIfInBounds_toArray, List.set_cons_zero, List.set_cons_succ]
      refine wpAnyH_take (i := 3) (v := ?vQ3) rfl (by kernel_rfl) (by kernel_rfl) (by kernel_rfl) (fun _ _ _ h => h) (Or.inl ⟨by rfl, ?yQ3⟩) hHeld ?rQ3
      case yQ3 => (intro W hSw; simp only [List.getElem_toArray, List.getElem_cons_succ, List.getElem_cons_zero]; go_simp; try (with_reducible rfl))
      simp only [List.getElem_toArray, List.getElem_cons_succ, List.getElem_cons_zero, Act.put, List.setIfInBounds_toArray, List.set_cons_zero, List.set_cons_succ]
      refine wpAnyH_take (i := 4) (v := ?vQ4) rfl (by kernel_rfl) (by kernel_rfl) (by kernel_rfl) (fun _ _ _ h => h) (Or.inl ⟨by rfl, ?yQ4⟩) hHeld ?rQ4
      case yQ4 => (intro W hSw; simp only [List.getElem_toArray, List.getElem_cons_succ, List.getElem_cons_zero]; go_simp; try (with_reducible rfl))
      simp only [List.getElem_toArray, List.getElem_cons_succ, List.getElem_cons_zero, Act.put, List.setIfInBounds_toArray, List.set_cons_zero, List.set_cons_succ]
      refine wpAnyH_take (i := 5) (v := ?vQ5) rfl (by kernel_rfl) (by kernel_rfl) (by kernel_rfl) (fun _ _ _ h => h) (Or.inl ⟨by rfl, ?yQ5⟩) hHeld ?rQ5
      case yQ5 => (intro W hSw; simp only [List.getElem_toArray, List.getElem_cons_succ, List.getElem_cons_zero]; go_simp; try (with_reducible rfl))
      simp only [List.getElem_toArray, List.getElem_cons_succ, List.getElem_cons_zero, Act.put, List.setIfInBounds_toArray, List.set_cons_zero, List.set_cons_succ]
      refine wpAnyH_take (i := 6) (v := ?vQ6) rfl (by kernel_rfl) (by kernel_rfl) (by kernel_rfl) (fun _ _ _ h => h) (Or.inl ⟨by rfl, ?yQ6⟩) hHeld ?rQ6
      case yQ6 => (intro W hSw; simp only [List.getElem_toArray, List.getElem_cons_succ, List.getElem_cons_zero]; go_simp; try (with_reducible rfl))
      simp only [List.getElem_toArray, List.getElem_cons_succ, List.getElem_cons_zero, Act.put, List.setIfInBounds_toArray, List.set_cons_zero, List.set_cons_succ]
      refine wpAnyH_take (i := 7) (v := ?vQ7) rfl (by kernel_rfl) (by kernel_rfl) (by kernel_rfl) (fun _ _ _ h => h) (Or.inl ⟨by rfl, ?yQ7⟩) hHeld ?rQ7
      case yQ7 => (intro W hSw; simp only [List.getElem_toArray, List.getElem_cons_succ, List.getElem_cons_zero]; go_simp; try (with_reducible rfl))
      simp only [List.getElem_toArray, List.getElem_cons_succ, List.getElem_cons_zero, Act.put, List.setIfInBounds_toArray, List.set_cons_zero, List.set_cons_succ]
      refine wpAnyH_take (i := 8) (v := ?vQ8) rfl (by kernel_rfl) (by kernel_rfl) (by kernel_rfl) (fun _ _ _ h => h) (Or.inl ⟨by rfl, ?yQ8⟩) hHeld ?rQ8
      case yQ8 => (intro W hSw; simp only [List.getElem_toArray, List.getElem_cons_succ, List.getElem_cons_zero]; go_simp; try (with_reducible rfl))
      simp only [List.getElem_toArray, List.getElem_cons_succ, List.getElem_cons_zero, Act.put, List.setIfInBounds_toArray, List.set_cons_zero, List.set_cons_succ]
      refine wpAnyH_take (i := 9) (v := ?vQ9) rfl (by kernel_rfl) (by kernel_rfl) (by kernel_rfl) (fun _ _ _ h => h) (Or.inl ⟨by rfl, ?yQ9⟩) hHeld ?rQ9
      case yQ9 => (intro W hSw; simp only [List.getElem_toArray, List.getElem_cons_succ, List.getElem_cons_zero]; go_simp; try (with_reducible rfl))
      simp only [List.getElem_toArray, List.getElem_cons_succ, List.getElem_cons_zero, Act.put, List.setIfInBounds_toArray, List.set_cons_zero, List.set_cons_succ]
      refine wpAnyH_take (i := 10) (v := ?vQ10) rfl (by kernel_rfl) (by kernel_rfl) (by kernel_rfl) (fun _ _ _ h => h) (Or.inl ⟨by rfl, ?yQ10⟩) hHeld ?rQ10
      case yQ10 => (intro W hSw; simp only [List.getElem_toArray, List.getElem_cons_succ, List.getElem_cons_zero]; go_simp; try (with_reducible rfl))
      simp only [List.getElem_toArray, List.getElem_cons_succ, List.getElem_cons_zero, Act.put, List.setIfInBounds_toArray, List.set_cons_zero, List.set_cons_succ]
      refine wpAnyH_take (i := 11) (v := ?vQ11) rfl (by kernel_rfl) (by kernel_rfl) (by kernel_rfl) (fun _ _ _ h => h) (Or.inl ⟨by rfl, ?yQ11⟩) hHeld ?rQ11
      case yQ11 => (intro W hSw; simp only [List.getElem_toArray, List.getElem_cons_succ, List.getElem_cons_zero]; go_simp; try (with_reducible rfl))
      simp only [List.getElem_toArray, List.getElem_cons_succ, List.getElem_cons_zero, Act.put, List.setIfInBounds_toArray, List.set_cons_zero, List.set_cons_succ]
      refine wpAnyH_ready (rs := [12]) (by kernel_rfl) (by simp) (AllReadyH.cons rfl (fun K hK => ?_) AllReadyH.nil)
      simp only [List.getElem_toArray, List.getElem_cons_succ, List.getElem_cons_zero]
      go_simp

      obtain ⟨w4, hw4⟩ : ∃ v, v = (setF w3 wr.heap.size kr).drew := ⟨_, rfl⟩
      have hw4e := hw4
      unfold setF at hw4e
      rw [← hw4e]
      have K4 : Ke (fun q => q = wr.heap.size) w3 w4 := by rw [hw4]; exact (setF_ke _ _ _).drew
      have o4' : w4.heap[wr.heap.size]? = some (.cells (rC kr) 26 (0, 0)) := by rw [hw4]; exact setF_obj (a := ⟨0, 0, 0, 0⟩) O3.out
      have K4h := Lib.hid K4
      refine hK.out _ _ (HS.out _ K4) (fun hHeld1 => ?_)
      clear hK K hHeld hHeld1
      refine wpAnyH_done (by kernel_rfl) ?_ _
      obtain ⟨y0, y1, y2, y3, y4, -, -, -, -⟩ := HS.out _ K4
      have O4 := Lib.hid o4'
      clear hw4 hw4e K4 o4' x0 x1 x2 x3 x4 x5 xf f0 f1 f2 f3 f4 g0 g5 ck3 oc0 oc1 oc2 oc3 os0
      have RR4 := Lib.hid (show w4.heap[W.heap.size + 1]? = some (.cells (rC (hull σ ((kidsOf σ u.b).take j))) 26 (0, 0)) from (K4h.out.block _ (by omega) (by omega)).trans R3.out)
      have MAY := Lib.hid (show may4 kr ∧ (j ≠ 0 → may4 (hull σ ((kidsOf σ u.b).take j))) from by
        have hkm : ∀ q ∈ kidsOf σ u.b, may4 (rOf σ q) := fun q hq => (HD6.out q hq).may
        refine ⟨by rw [EKR.out]; exact hkm k (List.mem_of_getElem? HK.out), fun hj => hullF_may fun r hr => ?_⟩
        obtain ⟨q, hq, rfl⟩ := List.mem_map.1 hr
        exact hkm q (List.mem_of_mem_take hq))
      have FINc := Lib.hid (show ∀ c, c ∈ inn σ (l + 1) v.b ++ (((kidsOf σ u.b).take j).flatMap (inn σ u.l) ++ (u.b :: B)) ↔ c ∈ ((kidsOf σ u.b).take (j + 1)).flatMap (inn σ u.l) ++ (u.b :: B) from fun c => by
        rw [flat_snoc HK.out, vb, HUL.out]
        simp only [List.mem_append]
        constructor
        · rintro (h | h | h)
          · exact Or.inl (Or.inr h)
          · exact Or.inl (Or.inl h)
          · exact Or.inr h
        · rintro ((h | h) | h)
          · exact Or.inr (Or.inl h)
          · exact Or.inl h
          · exact Or.inr (Or.inr h))
      have FINi := Lib.hid (show items + (((kidsOf σ u.b).take j).flatMap (lvs σ u.l)).length + (lvs σ (l + 1) v.b).length = items + (((kidsOf σ u.b).take (j + 1)).flatMap (lvs σ u.l)).length from by
        rw [flat_snoc HK.out, vb, HUL.out, List.length_append]
        omega)
      have hjr := HK.out
      by_cases hj00 : j = 0
      · have hjb : ((j : Int) == 0) = true := by simp; omega
        have m1 := MAY.out.1
        have RES := Lib.hid (show hull σ ((kidsOf σ u.b).take (j + 1)) = joinR kr kr from by rw [hull_snoc HK.out, if_pos hj00, ← EKR.out])
        have CJ := Lib.hid (fun W => refJoin_any kr.x1 kr.y1 kr.x2 kr.y2 kr.x1 kr.y1 kr.x2 kr.y2 W (may_in2 m1).1 (may_in2 m1).2 (may_in2 m1).1 (may_in2 m1).2)
        obtain ⟨hr, ehr⟩ : ∃ hr, hr = hull σ ((kidsOf σ u.b).take j) := ⟨_, rfl⟩
        rw [← ehr] at RR4
        have DR : ∀ (q b : Nat) (r : R4), w4.heap[b]? = some (Obj.cells (rC r) 26 (0, 0)) → (w4.drewN q).heap[b]? = some (Obj.cells (rC r) 26 (0, 0)) := fun q b r h => h
        have oq0 : ∀ q, (w4.drewN q).cell? ⟨wr.heap.size, 0, none⟩ = some (.int .i64 kr.x1) := fun q => (rc_cells (DR q _ _ O4.out)).1
        have oq1 : ∀ q, (w4.drewN q).cell? ⟨wr.heap.size, 1, none⟩ = some (.int .i64 kr.y1) := fun q => (rc_cells (DR q _ _ O4.out)).2.1
        have oq2 : ∀ q, (w4.drewN q).cell? ⟨wr.heap.size, 2, none⟩ = some (.int .i64 kr.x2) := fun q => (rc_cells (DR q _ _ O4.out)).2.2.1
        have oq3 : ∀ q, (w4.drewN q).cell? ⟨wr.heap.size, 3, none⟩ = some (.int .i64 kr.y2) := fun q => (rc_cells (DR q _ _ O4.out)).2.2.2.1
        have rq0 : ∀ q, (w4.drewN q).cell? ⟨W.heap.size + 1, 0, none⟩ = some (.int .i64 hr.x1) := fun q => (rc_cells (DR q _ _ RR4.out)).1
        have rq1 : ∀ q, (w4.drewN q).cell? ⟨W.heap.size + 1, 1, none⟩ = some (.int .i64 hr.y1) := fun q => (rc_cells (DR q _ _ RR4.out)).2.1
        have rq2 : ∀ q, (w4.drewN q).cell? ⟨W.heap.size + 1, 2, none⟩ = some (.int .i64 hr.x2) := fun q => (rc_cells (DR q _ _ RR4.out)).2.2.1
        have rq3 : ∀ q, (w4.drewN q).cell? ⟨W.heap.size + 1, 3, none⟩ = some (.int .i64 hr.y2) := fun q => (rc_cells (DR q _ _ RR4.out)).2.2.2.1
        have rqf : ∀ q c, (w4.drewN q).frozen? ⟨W.heap.size + 1, c, none⟩ = false := fun q => (rc_cells (DR q _ _ RR4.out)).2.2.2.2
        have so : ∀ q, (setF (w4.drewN q) (W.heap.size + 1) kr).heap[wr.heap.size]? = some (Obj.cells (rC kr) 26 (0, 0)) := fun q => ((setF_ke _ _ _).block _ (by show wr.heap.size < w4.heap.size; have h5 := K4h.out.size; omega) (by omega)).trans O4.out
        have sr : ∀ q, (setF (w4.drewN q) (W.heap.size + 1) kr).heap[W.heap.size + 1]? = some (Obj.cells (rC kr) 26 (0, 0)) := fun q => setF_obj (DR q _ _ RR4.out)
        have SRH := Lib.hid sr
        have so0 := fun q => (rc_cells (so q)).1
        have so1 := fun q => (rc_cells (so q)).2.1
        have so2 := fun q => (rc_cells (so q)).2.2.1
        have so3 := fun q => (rc_cells (so q)).2.2.2.1
        have sr0 := fun q => (rc_cells (sr q)).1
        have sr1 := fun q => (rc_cells (sr q)).2.1
        have sr2 := fun q => (rc_cells (sr q)).2.2.1
        have sr3 := fun q => (rc_cells (sr q)).2.2.2.1
        unfold setF at so0 so1 so2 so3 sr0 sr1 sr2 sr3
        clear ehr m1 so sr hj00
        go_wp2_with fail
        go_big_quiet (fail)
        go_wp2_with fail
        refine (CJ.out _).mono ?_
        rintro e w5 ⟨rfl, hb5⟩
        have k4 := K4h.out
        have KD : Ke (fun q => q = wr.heap.size) w3 (w4.drewN nq) := ⟨k4.os, k4.tape, k4.output, k4.size, k4.block⟩
        have zz := KD.size
        have KS : Ke (fun q => q = W.heap.size + 1) (w4.drewN nq) (setF (w4.drewN nq) (W.heap.size + 1) kr) := setF_ke _ _ _
        have hb5 : Below (setF (w4.drewN nq) (W.heap.size + 1) kr).heap.size (setF (w4.drewN nq) (W.heap.size + 1) kr) w5 := hb5
        have r5 : w5.heap[W.heap.size + 1]? = some (Obj.cells (rC kr) 26 (0, 0)) := (hb5.block _ (by have h5 := KS.size; have h6 : (w4.drewN nq).heap.size = w4.heap.size := rfl; have h7 := k4.size; omega)).trans (SRH.out nq)
        obtain ⟨s0, s1, s2, s3, sf⟩ := rc_cells r5
        have FIN := Lib.hid (show Lo w1 x m2 (.slice (some ⟨gL, 0, none⟩) NL cL) o t L σ B items u W W.heap.size (W.heap.size + 1) (j + 1) (setF w5 (W.heap.size + 1) (joinR kr kr)) from by
          refine Lo.next LO.out (by omega) ⟨by omega, by omega⟩ hw1 BO.out L3.out K3.out ?_ ?_ FINc.out FINi.out
          · exact (((KD.mono (Y := fun q => q = wr.heap.size ∨ q = W.heap.size + 1) (fun g _ h => Or.inl h)).trans KS (fun g _ h => Or.inr h)).below hb5).trans (setF_ke _ _ _) (fun g _ h => Or.inr h)
          · rw [RES.out]
            exact setF_obj r5)
        have HJN := Lib.hid (show j + 1 ≤ (kidsOf σ u.b).length by rw [HKD.out, ← HN.out]; omega)
        unfold setF joinR at FIN
        clear k4 KD zz r5 hb5 DR KS
        go_wp2_with fail
        go_roundw
        case rel => first | exact ⟨j + 1, by go_num, HJN.out, FIN.out⟩ | ((repeat apply Exists.intro); exact ⟨⟨j + 1, by go_num, HJN.out, FIN.out⟩, rfl⟩)
        case measure => simp [intOf]; omega
      · have hjb : ((j : Int) == 0) = false := by simp; omega
        have m1 := MAY.out.1
        have m2' := MAY.out.2 hj00
        obtain ⟨hr, ehr⟩ : ∃ hr, hr = hull σ ((kidsOf σ u.b).take j) := ⟨_, rfl⟩
        have EHR := Lib.hid ehr
        rw [← ehr] at RR4 m2'
        have RES := Lib.hid (show hull σ ((kidsOf σ u.b).take (j + 1)) = joinR hr kr from by rw [hull_snoc HK.out, if_neg hj00, ← EKR.out, ← EHR.out])
        have CJ := Lib.hid (fun W => refJoin_any hr.x1 hr.y1 hr.x2 hr.y2 kr.x1 kr.y1 kr.x2 kr.y2 W (may_in2 m2').1 (may_in2 m2').2 (may_in2 m1).1 (may_in2 m1).2)
        have DR : ∀ (q b : Nat) (r : R4), w4.heap[b]? = some (Obj.cells (rC r) 26 (0, 0)) → (w4.drewN q).heap[b]? = some (Obj.cells (rC r) 26 (0, 0)) := fun q b r h => h
        have oq0 : ∀ q, (w4.drewN q).cell? ⟨wr.heap.size, 0, none⟩ = some (.int .i64 kr.x1) := fun q => (rc_cells (DR q _ _ O4.out)).1
        have oq1 : ∀ q, (w4.drewN q).cell? ⟨wr.heap.size, 1, none⟩ = some (.int .i64 kr.y1) := fun q => (rc_cells (DR q _ _ O4.out)).2.1
        have oq2 : ∀ q, (w4.drewN q).cell? ⟨wr.heap.size, 2, none⟩ = some (.int .i64 kr.x2) := fun q => (rc_cells (DR q _ _ O4.out)).2.2.1
        have oq3 : ∀ q, (w4.drewN q).cell? ⟨wr.heap.size, 3, none⟩ = some (.int .i64 kr.y2) := fun q => (rc_cells (DR q _ _ O4.out)).2.2.2.1
        have rq0 : ∀ q, (w4.drewN q).cell? ⟨W.heap.size + 1, 0, none⟩ = some (.int .i64 hr.x1) := fun q => (rc_cells (DR q _ _ RR4.out)).1
        have rq1 : ∀ q, (w4.drewN q).cell? ⟨W.heap.size + 1, 1, none⟩ = some (.int .i64 hr.y1) := fun q => (rc_cells (DR q _ _ RR4.out)).2.1
        have rq2 : ∀ q, (w4.drewN q).cell? ⟨W.heap.size + 1, 2, none⟩ = some (.int .i64 hr.x2) := fun q => (rc_cells (DR q _ _ RR4.out)).2.2.1
        have rq3 : ∀ q, (w4.drewN q).cell? ⟨W.heap.size + 1, 3, none⟩ = some (.int .i64 hr.y2) := fun q => (rc_cells (DR q _ _ RR4.out)).2.2.2.1
        clear ehr m1 m2'
        go_wp2_with fail
        go_big_quiet (fail)
        go_wp2_with fail
        refine (CJ.out _).mono ?_
        rintro e w5 ⟨rfl, hb5⟩
        have k4 := K4h.out
        have KD : Ke (fun q => q = wr.heap.size) w3 (w4.drewN nq) := ⟨k4.os, k4.tape, k4.output, k4.size, k4.block⟩
        have zz := KD.size
        have r5 : w5.heap[W.heap.size + 1]? = some (Obj.cells (rC hr) 26 (0, 0)) := (hb5.block _ (by show W.heap.size + 1 < w4.heap.size; have h5 := k4.size; omega)).trans (DR nq _ _ RR4.out)
        obtain ⟨s0, s1, s2, s3, sf⟩ := rc_cells r5
        have FIN := Lib.hid (show Lo w1 x m2 (.slice (some ⟨gL, 0, none⟩) NL cL) o t L σ B items u W W.heap.size (W.heap.size + 1) (j + 1) (setF w5 (W.heap.size + 1) (joinR hr kr)) from by
          refine Lo.next LO.out (by omega) ⟨by omega, by omega⟩ hw1 BO.out L3.out K3.out ?_ ?_ FINc.out FINi.out
          · exact ((KD.mono (fun g _ h => Or.inl h)).below hb5).trans (setF_ke _ _ _) (fun g _ h => Or.inr h)
          · rw [RES.out]
            exact setF_obj r5)
        have HJN := Lib.hid (show j + 1 ≤ (kidsOf σ u.b).length by rw [HKD.out, ← HN.out]; omega)
        unfold setF joinR at FIN
        clear k4 KD zz r5 hb5 DR
        go_wp2_with fail
        go_roundw
        case rel => first | exact ⟨j + 1, by go_num, HJN.out, FIN.out⟩ | ((repeat apply Exists.intro); exact ⟨⟨j + 1, by go_num, HJN.out, FIN.out⟩, rfl⟩)
        case measure => simp [intOf]; omega

    · have hlz : ¬ (j : Int) < (n : Int) := by omega
      have hk : (kidsOf σ u.b).take j = kidsOf σ u.b := List.take_of_length_le (by rw [HKD.out, ← HN.out]; omega)
      have hR := hLO.rr
      rw [hk, HKD.out, ← HD5.out, HRD.out] at hR
      have hN2 := hLO.nn
      rw [HCE.out] at hN2
      have c0 : wr.cell? ⟨W.heap.size + 1, 0, none⟩ = some (.int .i64 r1) := by simp [World.cell?, hR, rC]
      have c1 : wr.cell? ⟨W.heap.size + 1, 1, none⟩ = some (.int .i64 r2) := by simp [World.cell?, hR, rC]
      have c2 : wr.cell? ⟨W.heap.size + 1, 2, none⟩ = some (.int .i64 r3) := by simp [World.cell?, hR, rC]
      have c3 : wr.cell? ⟨W.heap.size + 1, 3, none⟩ = some (.int .i64 r4) := by simp [World.cell?, hR, rC]
      have e1 : wr.cell? ⟨W.heap.size, 1, none⟩ = some (.int .i64 r1) := by simp [World.cell?, hN2]
      have e2 : wr.cell? ⟨W.heap.size, 2, none⟩ = some (.int .i64 r2) := by simp [World.cell?, hN2]
      have e3 : wr.cell? ⟨W.heap.size, 3, none⟩ = some (.int .i64 r3) := by simp [World.cell?, hN2]
      have e4 : wr.cell? ⟨W.heap.size, 4, none⟩ = some (.int .i64 r4) := by simp [World.cell?, hN2]
      have q5 := neq_four r1 r2 r3 r4
      have FIN := Lib.hid (show NodeE w1 x m2 (.slice (some ⟨gL, 0, none⟩) NL cL) o t L σ B items u.b (l + 1) W (.returned (.tuple #[])) wr from by
        have h1 := hLO.lk
        rw [hk] at h1
        refine ⟨rfl, ?_, hLO.ke⟩
        rw [HUL.out] at h1
        refine Lk.congr (B := (kidsOf σ u.b).flatMap (inn σ (l + 1)) ++ (u.b :: B)) h1 fun c => ?_
        show _ ↔ c ∈ (u.b :: (kidsOf σ u.b).flatMap (inn σ (l + 1))) ++ B
        simp only [List.mem_append, List.mem_cons, List.cons_append]
        constructor
        · rintro (h | h | h)
          · exact Or.inr (Or.inl h)
          · exact Or.inl h
          · exact Or.inr (Or.inr h)
        · rintro (h | h | h)
          · exact Or.inr (Or.inl h)
          · exact Or.inl h
          · exact Or.inr (Or.inr h))
      clear hR hN2 hk hLO LO hj hlt
      go_wp2_with fail
      refine bodyPost_end (v := .tuple #[]) ?hv ?hd ?hr
      case hv => simp [results, Tryz.results27, go_sem]
      case hd => rfl
      case hr => exact FIN.out
end Go.Proofs.YtobkgamcjfjghaaGreat.Rt
