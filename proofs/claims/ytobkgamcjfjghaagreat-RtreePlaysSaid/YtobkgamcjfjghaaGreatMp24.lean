/-
  Contract of the law's Amiss: nothing is amiss of an index whose parts are sound.
-/
import Derived.Test.YtobkgamcjfjghaaGreatMp21
import Derived.Test.YtobkgamcjfjghaaGreatMp22
import Derived.Test.YtobkgamcjfjghaaGreatMp23
/-
  Contract of the law's Look.node at a root above others: nothing is amiss.
-/
namespace Go.Proofs.YtobkgamcjfjghaaGreat.Rt
open Go.RowKit Go.Joins Go.Proofs.YtobkgamcjfjghaaGreat.Pt Go.Proofs.YtobkgamcjfjghaaGreat.Rc Go.Proofs.YtobkgamcjfjghaaGreat.Rs
set_option linter.unusedVariables false
set_option linter.unusedSimpArgs false
set_option maxHeartbeats 8000000
set_option maxRecDepth 100000

theorem root_inner (w1 : World) (σ : St) (V : Nat → Value) (t o mb root h : Nat) (M : Int → Option Nat) (G : List Nat) (gL cL : Nat) (L : List (Nat × Nat)) (T : List Tn) (x m2 : Nat) (EV : Ev w1 σ V t o mb root h M G gL L T) (o1 : 4 ≤ o) (o2 : o ≤ 16) (l : Nat) (IH : ∀ (p : Nat) (u : Tn) (B : List Nat) (items : Nat) (W : World), T[p]? = some u → u.l = l → 0 < p → Nd σ (leastN o) o (l + 1) u.b → (∀ c ∈ inn σ (l + 1) u.b, c ∉ B) → (inn σ (l + 1) u.b).Nodup → (∀ c ∈ lvs σ (l + 1) u.b, c ∈ G) → items + (lvs σ (l + 1) u.b).length ≤ 100000 → Lk w1 x m2 (.slice (some ⟨gL, 0, none⟩) L.length cL) o t L B items W → Calls Tryz.prog 27 #[ptr x, .int .i64 (p : Int)] W (NodeE w1 x m2 (.slice (some ⟨gL, 0, none⟩) L.length cL) o t L σ B items u.b l W)) (p : Nat) (u : Tn) (B : List Nat) (items : Nat) (W : World) (hlm : l ≤ 100000) (hu : T[p]? = some u) (hul : u.l = (l + 1)) (hp0 : p = 0) (hnd : Nd σ 0 o ((l + 1) + 1) u.b) (h2k : 2 ≤ (kidsOf σ u.b).length) (hkn : ∀ k ∈ kidsOf σ u.b, Nd σ (leastN o) o (l + 1) k) (hB : ∀ c ∈ inn σ ((l + 1) + 1) u.b, c ∉ B) (hnd2 : (inn σ ((l + 1) + 1) u.b).Nodup) (hlv : ∀ c ∈ lvs σ ((l + 1) + 1) u.b, c ∈ G) (hit : items + (lvs σ ((l + 1) + 1) u.b).length ≤ 100000) (HLK : Lk w1 x m2 (.slice (some ⟨gL, 0, none⟩) L.length cL) o t L B items W) :
    Calls Tryz.prog 27 #[ptr x, .int .i64 (p : Int)] W (NodeE w1 x m2 (.slice (some ⟨gL, 0, none⟩) L.length cL) o t L σ B items u.b (l + 1) W) := by
  have hp1 := (List.getElem?_eq_some_iff.1 hu).1
  rw [EV.len] at hp1
  have hLp := EV.at hu
  obtain ⟨d, d1, d2, d3, d4, d5, d6⟩ := id hnd
  have KD : kidsOf σ u.b = d.kids := kidsOf_some d1
  have RD : rOf σ u.b = d.r := rOf_some d1
  obtain ⟨b, eb⟩ : ∃ b, b = u.b := ⟨_, rfl⟩
  obtain ⟨g, eg⟩ : ∃ g, g = u.g := ⟨_, rfl⟩
  obtain ⟨n, hn⟩ : ∃ n, n = d.kids.length := ⟨_, rfl⟩
  obtain ⟨r1, er1⟩ : ∃ r1, r1 = d.r.x1 := ⟨_, rfl⟩
  obtain ⟨r2, er2⟩ : ∃ r2, r2 = d.r.y1 := ⟨_, rfl⟩
  obtain ⟨r3, er3⟩ : ∃ r3, r3 = d.r.x2 := ⟨_, rfl⟩
  obtain ⟨r4, er4⟩ : ∃ r4, r4 = d.r.y2 := ⟨_, rfl⟩
  obtain ⟨lz, elz⟩ : ∃ lz : Int, lz = ((l + 1) : Nat) := ⟨_, rfl⟩
  have CE : Tn.cells σ u = (#[.int .i64 lz, .int .i64 r1, .int .i64 r2, .int .i64 r3, .int .i64 r4, .slice (some ⟨g, 0, none⟩) n n] : Array Value).toList := by
    unfold Tn.cells
    rw [RD, KD, er1, er2, er3, er4, hn, hul, eg, elz]
  have TC := EV.told p u hu
  rw [CE] at TC
  have a0 : W.cell? ⟨gL, p * 6, none⟩ = some (.int .i64 lz) := cell_later HLK.below (TC 0 (by omega))
  have a1 : W.cell? ⟨gL, p * 6 + 1, none⟩ = some (.int .i64 r1) := cell_later HLK.below (TC 1 (by omega))
  have a2 : W.cell? ⟨gL, p * 6 + 2, none⟩ = some (.int .i64 r2) := cell_later HLK.below (TC 2 (by omega))
  have a3 : W.cell? ⟨gL, p * 6 + 3, none⟩ = some (.int .i64 r3) := cell_later HLK.below (TC 3 (by omega))
  have a4 : W.cell? ⟨gL, p * 6 + 4, none⟩ = some (.int .i64 r4) := cell_later HLK.below (TC 4 (by omega))
  have a5 : W.cell? ⟨gL, p * 6 + 5, none⟩ = some (.slice (some ⟨g, 0, none⟩) n n) := cell_later HLK.below (TC 5 (by omega))
  obtain ⟨x0, x1, x2, x3, x4, x5, xf⟩ := HLK.cells
  obtain ⟨ml, ml2, mx⟩ := HLK.m2l
  have m0 : W.cell? ⟨m2, p, none⟩ = some (.bool false) := by
    rw [HLK.met.cellAt p (by omega), metL_at hLp, decide_eq_false (hB u.b (by simp [inn]))]
  have mf := HLK.met.frozenAt
  have xs : x < W.heap.size := (Array.getElem?_eq_some_iff.1 HLK.obj).1
  have hx1 := HLK.xl
  obtain ⟨NL, hNL⟩ : ∃ NL, NL = L.length := ⟨_, rfl⟩
  have MF : ∀ W', Below W.heap.size W W' → (∀ c, W'.frozen? ⟨m2, c, none⟩ = false) := fun W' hb c => (World.frozen?_of_block (w := W) (w' := W') (a := ⟨m2, c, none⟩) (hb.block m2 ml2)).trans (mf c)
  obtain ⟨WN, hWN⟩ : ∃ v, v = W.alloc (.cells #[.int .i64 lz, .int .i64 r1, .int .i64 r2, .int .i64 r3, .int .i64 r4, .slice (some ⟨g, 0, none⟩) n n] 81) := ⟨_, rfl⟩
  have BN : Below W.heap.size W WN := by rw [hWN]; exact (Below.refl _ _).alloc (Nat.le_refl _) _
  have y0 := cell_later BN x0
  have y1 := cell_later BN x1
  have y2 := cell_later BN x2
  have y3 := cell_later BN x3
  have y4 := cell_later BN x4
  have y5 := cell_later BN x5
  have n0 := cell_later BN m0
  have nf := MF WN BN
  have HLKh := Lib.hid HLK
  rw [hWN] at y0 y1 y2 y3 y4 y5 n0 nf
  rw [← hNL] at x0 x3 y0 y3 hp1 ⊢
  have hp1' : (p : Int) < (NL : Int) := by omega
  have hpz : ¬ (p : Int) < 0 := by omega
  have hpN : ¬ (p : Int) ≥ (NL : Int) := by omega
  have SEE2 := HLKh.out.see EV.nd hLp
  obtain ⟨WS, hWS⟩ : ∃ v, v = W.setCell ⟨m2, p, none⟩ (.bool true) := ⟨_, rfl⟩
  rw [← hWS] at SEE2
  have hsz : WS.heap.size = W.heap.size := by rw [hWS]; simp
  have b1 : Below WS.heap.size WS ((WS.alloc (.cells #[.int .i64 lz, .int .i64 r1, .int .i64 r2, .int .i64 r3, .int .i64 r4, .slice (some ⟨g, 0, none⟩) n n] 81)).alloc (.cells #[.int .i64 0, .int .i64 0, .int .i64 0, .int .i64 0] 26)) := ((Below.refl _ _).alloc (Nat.le_refl _) _).alloc (by simp) _
  have R0 := Lib.hid (show LoR w1 x m2 (.slice (some ⟨gL, 0, none⟩) NL cL) o t L σ B items u W W.heap.size (W.heap.size + 1) (.int .i64 0) ((WS.alloc (.cells #[.int .i64 lz, .int .i64 r1, .int .i64 r2, .int .i64 r3, .int .i64 r4, .slice (some ⟨g, 0, none⟩) n n] 81)).alloc (.cells #[.int .i64 0, .int .i64 0, .int .i64 0, .int .i64 0] 26)) from ⟨0, rfl, Nat.zero_le _, by
    refine ⟨?_, SEE2.2.below b1, ?_, ?_, Nat.le_refl _, by omega⟩
    · rw [List.take_zero, List.flatMap_nil, List.nil_append, List.flatMap_nil, List.length_nil, Nat.add_zero, hNL]
      exact SEE2.1.later b1
    · rw [CE, ← hsz]
      exact (((Below.refl _ _).alloc (Nat.le_refl _) _ : Below (WS.alloc (.cells #[.int .i64 lz, .int .i64 r1, .int .i64 r2, .int .i64 r3, .int .i64 r4, .slice (some ⟨g, 0, none⟩) n n] 81)).heap.size (WS.alloc (.cells #[.int .i64 lz, .int .i64 r1, .int .i64 r2, .int .i64 r3, .int .i64 r4, .slice (some ⟨g, 0, none⟩) n n] 81)) ((WS.alloc (.cells #[.int .i64 lz, .int .i64 r1, .int .i64 r2, .int .i64 r3, .int .i64 r4, .slice (some ⟨g, 0, none⟩) n n] 81)).alloc (.cells #[.int .i64 0, .int .i64 0, .int .i64 0, .int .i64 0] 26))).block WS.heap.size (by simp)).trans (MapKept.heap_alloc WS _).1
    · rw [List.take_zero, hull_nil, ← hsz]
      have := (MapKept.heap_alloc (WS.alloc (.cells #[.int .i64 lz, .int .i64 r1, .int .i64 r2, .int .i64 r3, .int .i64 r4, .slice (some ⟨g, 0, none⟩) n n] 81)) (.cells #[.int .i64 0, .int .i64 0, .int .i64 0, .int .i64 0] 26)).1
      rw [show (WS.alloc (.cells #[.int .i64 lz, .int .i64 r1, .int .i64 r2, .int .i64 r3, .int .i64 r4, .slice (some ⟨g, 0, none⟩) n n] 81)).heap.size = WS.heap.size + 1 by simp] at this
      exact this⟩)
  rw [hWS] at R0
  obtain ⟨o4, ho4⟩ : ∃ o4, o4 = o / 4 := ⟨_, rfl⟩
  have q4 : Int.tdiv (o : Int) 4 = (o4 : Int) := by rw [ho4]; rfl
  have hko : ¬ (n : Int) > (o : Int) := by omega
  have hpp : ¬ (p : Int) > 0 := by omega
  have hpe : ((p : Int) == 0) = true := by simp; omega
  have hlz0 : lz > 0 := by rw [elz]; omega
  have hkq : ¬ (n : Int) < 2 := by rw [KD, ← hn] at h2k; omega
  have HNL := Lib.hid hNL
  have HN := Lib.hid hn
  have HKD := Lib.hid KD
  have HRD := Lib.hid (show d.r = ⟨r1, r2, r3, r4⟩ by rw [er1, er2, er3, er4])
  have HD5 := Lib.hid d5
  have HD6 := Lib.hid hkn
  have HU := Lib.hid hu
  have HUL := Lib.hid hul
  have HEB := Lib.hid eb
  have HEG := Lib.hid eg
  have HCE := Lib.hid CE
  have HBB := Lib.hid hB
  have HND2 := Lib.hid hnd2
  have HLV := Lib.hid hlv
  have HIT := Lib.hid hit
  have HEV := Lib.hid EV
  have HLZ := Lib.hid elz
  clear hp0
  unfold ptr at x2 y2 ⊢
  clear hWN BN hNL hn SEE2 hWS hsz b1 d3 d4 ho4 CE TC HLK mf MF hp1 hLp hu hB hnd hnd2 hlv hit d6 d5 d1 d2 eb eg er1 er2 er3 er4 elz hul KD RD hx1 EV
  go_enter Tryz.func27, Tryz.ntmps27
  go_wp2_with fail
  go_loopw [7] (fun vi wr => LoR w1 x m2 (.slice (some ⟨gL, 0, none⟩) NL cL) o t L σ B items u W W.heap.size (W.heap.size + 1) vi wr) (fun vi _ => n - (intOf vi).toNat)
  case atStart => exact R0.out
  case round =>
    clear R0 x0 x1 x2 x3 x4 x5 xf y0 y1 y2 y3 y4 y5 n0 nf m0 a0 a1 a2 a3 a4 a5
    obtain ⟨j, rfl, hj, hLO⟩ := hrel
    rw [HKD.out, ← HN.out] at hj
    have LO := Lib.hid hLO
    by_cases hlt : j < n
    · have hlz : (j : Int) < (n : Int) := by omega
      have hj0 : (0 : Int) ≤ (j : Int) := by omega
      obtain ⟨k, hk⟩ : ∃ k, (kidsOf σ u.b)[j]? = some k := ⟨_, List.getElem?_eq_getElem (by rw [HKD.out, ← HN.out]; exact hlt)⟩
      obtain ⟨ps, kn, v, hv, vb, vl⟩ := HEV.out.kid HU.out HUL.out hk
      obtain ⟨s, es⟩ : ∃ s, s = u.s + j := ⟨_, rfl⟩
      rw [← es] at kn hv
      have hps : p < s := by omega
      have hkm := List.mem_of_getElem? hk
      have HK := Lib.hid hk
      obtain ⟨wo, hwo⟩ : ∃ v, v = wr.alloc (.cells #[.int .i64 0, .int .i64 0, .int .i64 0, .int .i64 0] 26) := ⟨_, rfl⟩
      have bo : Below wr.heap.size wr wo := by rw [hwo]; exact (Below.refl _ _).alloc (Nat.le_refl _) _
      have LKo := hLO.lk.later bo
      have nlt : W.heap.size < wr.heap.size := (Array.getElem?_eq_some_iff.1 hLO.nn).1
      have rlt : W.heap.size + 1 < wr.heap.size := (Array.getElem?_eq_some_iff.1 hLO.rr).1
      have nno := (bo.block _ nlt).trans hLO.nn
      rw [HCE.out] at nno
      have rro := (bo.block _ rlt).trans hLO.rr
      have oo : wo.heap[wr.heap.size]? = some (.cells #[.int .i64 0, .int .i64 0, .int .i64 0, .int .i64 0] 26 (0, 0)) := by rw [hwo]; exact (MapKept.heap_alloc wr _).1
      have ck : wo.cell? ⟨g, j, none⟩ = some (.int .i64 (s : Int)) := by
        obtain ⟨j1, j2⟩ := List.getElem?_eq_some_iff.1 kn
        rw [HEG.out, cell_later LKo.below ((HEV.out.kids u (List.mem_of_getElem? HU.out)).cell j j1), j2]
      have e0 : wo.cell? ⟨W.heap.size, 0, none⟩ = some (.int .i64 lz) := by simp [World.cell?, nno]
      have e5 : wo.cell? ⟨W.heap.size, 5, none⟩ = some (.slice (some ⟨g, 0, none⟩) n n) := by simp [World.cell?, nno]
      have hlb : (lz == 0) = false := by rw [HLZ.out]; simp; omega
      have hol : wr.heap.size < wo.heap.size := (Array.getElem?_eq_some_iff.1 oo).1
      have hBj : ∀ c ∈ inn σ (l + 1) v.b, c ∉ ((kidsOf σ u.b).take j).flatMap (inn σ u.l) ++ (u.b :: B) := by
        rw [vb, HUL.out]
        intro c hc
        have h1 : (u.b :: (kidsOf σ u.b).flatMap (inn σ (l + 1))).Nodup := HND2.out
        obtain ⟨h2, h3⟩ := List.nodup_cons.1 h1
        have hcm : c ∈ (kidsOf σ u.b).flatMap (inn σ (l + 1)) := List.mem_flatMap.2 ⟨k, hkm, hc⟩
        rw [flat_parts hk] at h3
        obtain ⟨_, _, h4⟩ := List.nodup_append.1 h3
        simp only [List.mem_append, List.mem_cons]
        rintro (h | h | h)
        · exact h4 c h c (List.mem_append_left _ hc) rfl
        · subst h; exact h2 hcm
        · exact HBB.out c (List.mem_cons_of_mem _ hcm) h
      have hnj : (inn σ (l + 1) v.b).Nodup := by
        rw [vb]
        have h1 : (u.b :: (kidsOf σ u.b).flatMap (inn σ (l + 1))).Nodup := HND2.out
        obtain ⟨h2, h3⟩ := List.nodup_cons.1 h1
        rw [flat_parts hk] at h3
        exact (List.nodup_append.1 (List.nodup_append.1 h3).2.1).1
      have hlvj : ∀ c ∈ lvs σ (l + 1) v.b, c ∈ G := by
        rw [vb]
        exact fun c hc => HLV.out c (List.mem_flatMap.2 ⟨k, hkm, hc⟩)
      have hitj : items + (((kidsOf σ u.b).take j).flatMap (lvs σ u.l)).length + (lvs σ (l + 1) v.b).length ≤ 100000 := by
        rw [vb, HUL.out]
        have h1 : items + ((kidsOf σ u.b).flatMap (lvs σ (l + 1))).length ≤ 100000 := HIT.out
        rw [flat_parts hk, List.length_append, List.length_append] at h1
        omega
      have CI := Lib.hid (IH s v _ _ wo hv vl (by omega) (by rw [vb]; exact HD6.out k hkm) hBj hnj hlvj hitj (by rw [← HNL.out]; exact LKo))
      rw [← HNL.out] at CI
      rw [hwo] at CI ck e0 e5
      have HWO := Lib.hid hwo
      have HV := Lib.hid hv
      have NLT := Lib.hid (And.intro nlt (And.intro rlt hol))
      have NNO := Lib.hid nno
      have RRO := Lib.hid rro
      have OOO := Lib.hid oo
      have LO1 := Lib.hid LKo
      have BO := Lib.hid bo
      clear hkm kn bo LKo nno rro oo hol hBj hnj hlvj hitj hwo hLO hv nlt rlt es ps hk
      unfold ptr at CI
      go_wp2_with fail
      refine Calls.mono CI.out ?_
      rintro e w3 ⟨rfl, LK3, KE3⟩
      rw [← HWO.out] at KE3
      have hw1 : w1.heap.size ≤ W.heap.size := HLKh.out.below.size
      obtain ⟨nlt, rlt, olt⟩ := NLT.out
      have nex : ∀ q, W.heap.size ≤ q → ¬ (q = x ∨ q = m2) := fun q hq e => by rcases e with e | e <;> omega
      have z3 := KE3.size
      have bsz := BO.out.size
      obtain ⟨x0, x1, x2, x3, x4, x5, xf⟩ := LK3.cells
      have n3 := (KE3.block W.heap.size (by omega) (nex _ (Nat.le_refl _))).trans NNO.out
      have r3 := (KE3.block (W.heap.size + 1) (by omega) (nex _ (by omega))).trans RRO.out
      have o3 := (KE3.block wr.heap.size olt (nex _ (by omega))).trans OOO.out
      obtain ⟨kr, ekr⟩ : ∃ kr, kr = rOf σ k := ⟨_, rfl⟩
      have TC := HEV.out.told s v HV.out
      have VC : Tn.cells σ v = [.int .i64 (l : Int), .int .i64 kr.x1, .int .i64 kr.y1, .int .i64 kr.x2, .int .i64 kr.y2, .slice (some ⟨v.g, 0, none⟩) (kidsOf σ k).length (kidsOf σ k).length] := by
        unfold Tn.cells
        rw [vb, vl, ekr]
      rw [VC] at TC
      have f0 : w3.cell? ⟨gL, s * 6, none⟩ = some (.int .i64 (l : Int)) := cell_later LK3.below (TC 0 (by omega))
      have f1 : w3.cell? ⟨gL, s * 6 + 1, none⟩ = some (.int .i64 kr.x1) := cell_later LK3.below (TC 1 (by omega))
      have f2 : w3.cell? ⟨gL, s * 6 + 2, none⟩ = some (.int .i64 kr.y1) := cell_later LK3.below (TC 2 (by omega))
      have f3 : w3.cell? ⟨gL, s * 6 + 3, none⟩ = some (.int .i64 kr.x2) := cell_later LK3.below (TC 3 (by omega))
      have f4 : w3.cell? ⟨gL, s * 6 + 4, none⟩ = some (.int .i64 kr.y2) := cell_later LK3.below (TC 4 (by omega))
      have hsT := (List.getElem?_eq_some_iff.1 HV.out).1
      rw [HEV.out.len, ← HNL.out] at hsT
      have hsz : (s : Int) < (NL : Int) := by omega
      have hs0 : (0 : Int) ≤ (s : Int) := by omega
      have kgl := (HEV.out.kids u (List.mem_of_getElem? HU.out)).lt
      rw [← HEG.out] at kgl
      have ggl := HEV.out.gl
      have ck3 : w3.cell? ⟨g, j, none⟩ = some (.int .i64 (s : Int)) := by
        have h1 : wo.cell? ⟨g, j, none⟩ = some (.int .i64 (s : Int)) := by rw [HWO.out]; exact ck
        exact (World.cell?_of_block (w := wo) (w' := w3) (a := ⟨g, j, none⟩) (KE3.block g (by omega) (fun e => by have h7 := HLKh.out.xl; have h8 := HLKh.out.m2l; rcases e with e | e <;> omega))).trans h1
      have g0 : w3.cell? ⟨W.heap.size, 0, none⟩ = some (.int .i64 lz) := by simp [World.cell?, n3]
      have g5 : w3.cell? ⟨W.heap.size, 5, none⟩ = some (.slice (some ⟨g, 0, none⟩) n n) := by simp [World.cell?, n3]
      have HS : Hid (∀ Wz, Ke (fun q => q = wr.heap.size) w3 Wz → (fun Wz : World => Wz.cell? ⟨x, 0, none⟩ = some (.slice (some ⟨gL, 0, none⟩) NL cL) ∧ Wz.cell? ⟨W.heap.size, 0, none⟩ = some (.int .i64 lz) ∧ Wz.cell? ⟨W.heap.size, 5, none⟩ = some (.slice (some ⟨g, 0, none⟩) n n) ∧ Wz.cell? ⟨g, j, none⟩ = some (.int .i64 (s : Int)) ∧ Wz.cell? ⟨gL, s * 6, none⟩ = some (.int .i64 (l : Int)) ∧ Wz.cell? ⟨gL, s * 6 + 1, none⟩ = some (.int .i64 kr.x1) ∧ Wz.cell? ⟨gL, s * 6 + 2, none⟩ = some (.int .i64 kr.y1) ∧ Wz.cell? ⟨gL, s * 6 + 3, none⟩ = some (.int .i64 kr.x2) ∧ Wz.cell? ⟨gL, s * 6 + 4, none⟩ = some (.int .i64 kr.y2)) Wz) := Lib.hid fun Wz hz => by
        have hc : ∀ (q a : Nat) (y : Value), q < wr.heap.size → w3.cell? ⟨q, a, none⟩ = some y → Wz.cell? ⟨q, a, none⟩ = some y := fun q a y hq hy =>
          (World.cell?_of_block (w := w3) (w' := Wz) (a := ⟨q, a, none⟩) (hz.block q (by omega) (by omega))).trans hy
        exact ⟨hc _ _ _ (by omega) x0, hc _ _ _ (by omega) g0, hc _ _ _ (by omega) g5, hc _ _ _ (by omega) ck3, hc _ _ _ (by omega) f0, hc _ _ _ (by omega) f1, hc _ _ _ (by omega) f2, hc _ _ _ (by omega) f3, hc _ _ _ (by omega) f4⟩
      have os0 : ∀ a, w3.frozen? ⟨wr.heap.size, a, none⟩ = false := fun a => by simp [World.frozen?, o3]
      have oc0 : w3.cell? ⟨wr.heap.size, 0, none⟩ = some (.int .i64 0) := by simp [World.cell?, o3]
      have oc1 : w3.cell? ⟨wr.heap.size, 1, none⟩ = some (.int .i64 0) := by simp [World.cell?, o3]
      have oc2 : w3.cell? ⟨wr.heap.size, 2, none⟩ = some (.int .i64 0) := by simp [World.cell?, o3]
      have oc3 : w3.cell? ⟨wr.heap.size, 3, none⟩ = some (.int .i64 0) := by simp [World.cell?, o3]
      have L3 := Lib.hid LK3
      have N3 := Lib.hid n3
      have R3 := Lib.hid r3
      have O3 := Lib.hid o3
      have K3 := Lib.hid KE3
      have EKR := Lib.hid ekr
      have hll : lz - 1 = (l : Int) := by rw [HLZ.out]; omega
      have hlm2 : lz ≤ 100001 := by rw [HLZ.out]; omega
      have hlm3 : (1 : Int) ≤ lz := by rw [HLZ.out]; omega
      have hsp : ¬ (s : Int) ≤ (p : Int) := by omega
      have dsp : decide ((s : Int) ≤ (p : Int)) = false := decide_eq_false hsp
      clear TC VC n3 r3 o3 LK3 KE3 ck e0 e5 ekr
      go_wp2_with fail
      refine wp_region_held_drew (S := (fun Wz : World => Wz.cell? ⟨x, 0, none⟩ = some (.slice (some ⟨gL, 0, none⟩) NL cL) ∧ Wz.cell? ⟨W.heap.size, 0, none⟩ = some (.int .i64 lz) ∧ Wz.cell? ⟨W.heap.size, 5, none⟩ = some (.slice (some ⟨g, 0, none⟩) n n) ∧ Wz.cell? ⟨g, j, none⟩ = some (.int .i64 (s : Int)) ∧ Wz.cell? ⟨gL, s * 6, none⟩ = some (.int .i64 (l : Int)) ∧ Wz.cell? ⟨gL, s * 6 + 1, none⟩ = some (.int .i64 kr.x1) ∧ Wz.cell? ⟨gL, s * 6 + 2, none⟩ = some (.int .i64 kr.y1) ∧ Wz.cell? ⟨gL, s * 6 + 3, none⟩ = some (.int .i64 kr.x2) ∧ Wz.cell? ⟨gL, s * 6 + 4, none⟩ = some (.int .i64 kr.y2))) (by kernel_rfl) (HS.out _ ((Ke.refl _ _).drew)) (fun hHeld => ?_)
      refine wpAnyH_take (i := 0) (v := ?vQ0) rfl (by kernel_rfl) (by kernel_rfl) (by kernel_rfl) (fun _ _ _ h => h) (Or.inl ⟨by rfl, ?yQ0⟩) hHeld ?rQ0
      case yQ0 => (intro W hSw; simp only [List.getElem_toArray, List.getElem_cons_zero]; go_simp; try (with_reducible rfl))
      simp only [List.getElem_toArray, List.getElem_cons_zero, Act.put, List.setIfInBounds_toArray, List.set_cons_zero, List.set_cons_succ]
      refine wpAnyH_take (i := 1) (v := ?vQ1) rfl (by kernel_rfl) (by kernel_rfl) (by kernel_rfl) (fun _ _ _ h => h) (Or.inl ⟨by rfl, ?yQ1⟩) hHeld ?rQ1
      case yQ1 => (intro W hSw; simp only [List.getElem_toArray, List.getElem_cons_succ, List.getElem_cons_zero]; go_simp; try (with_reducible rfl))
      simp only [List.getElem_toArray, List.getElem_cons_succ, List.getElem_cons_zero, Act.put, List.setIfInBounds_toArray, List.set_cons_zero, List.set_cons_succ]
      refine wpAnyH_take (i := 2) (v := ?vQ2) rfl (by kernel_rfl) (by kernel_rfl) (by kernel_rfl) (fun _ _ _ h => h) (Or.inl ⟨by rfl, ?yQ2⟩) hHeld ?rQ2
      case yQ2 => (intro W hSw; simp only [List.getElem_toArray, List.getElem_cons_succ, List.getElem_cons_zero]; go_simp; try (with_reducible rfl))
      simp only [List.getElem_toArray, List.getElem_cons_succ, List.getElem_cons_zero, Act.put, List.setIfInBounds_toArray, List.set_cons_zero, List.set_cons_succ]
      refine wpAnyH_take (i := 3) (v := ?vQ3) rfl (by kernel_rfl) (by kernel_rfl) (by kernel_rfl) (fun _ _ _ h => h) (Or.inl ⟨by rfl, ?yQ3⟩) hHeld ?rQ3
      case yQ3 => (intro W hSw; simp only [List.getElem_toArray, List.getElem_cons_succ, List.getElem_cons_zero]; go_simp; try (with_reducible rfl))
      simp only [List.getElem_toArray, List.getElem_cons_succ, List.getElem_cons_zero, Act.put, List.setIfInBounds_toArray, List.set_cons_zero, List.set_cons_succ]
      refine wpAnyH_take (i := 4) (v := ?vQ4) rfl (by kernel_rfl) (by kernel_rfl) (by kernel_rfl) (fun _ _ _ h => h) (Or.inl ⟨by rfl, ?yQ4⟩) hHeld ?rQ4
      case yQ4 => (intro W hSw; simp only [List.getElem_toArray, List.getElem_cons_succ, List.getElem_cons_zero]; go_simp; try (with_reducible rfl))
      simp only [List.getElem_toArray, List.getElem_cons_succ, List.getElem_cons_zero, Act.put, List.setIfInBounds_toArray, List.set_cons_zero, List.set_cons_succ]
      refine wpAnyH_take (i := 5) (v := ?vQ5) rfl (by kernel_rfl) (by kernel_rfl) (by kernel_rfl) (fun _ _ _ h => h) (Or.inl ⟨by rfl, ?yQ5⟩) hHeld ?rQ5
      case yQ5 => (intro W hSw; simp only [List.getElem_toArray, List.getElem_cons_succ, List.getElem_cons_zero]; go_simp; try (with_reducible rfl))
      simp only [List.getElem_toArray, List.getElem_cons_succ, List.getElem_cons_zero, Act.put, List.setIfInBounds_toArray, List.set_cons_zero, List.set_cons_succ]
      refine wpAnyH_take (i := 6) (v := ?vQ6) rfl (by kernel_rfl) (by kernel_rfl) (by kernel_rfl) (fun _ _ _ h => h) (Or.inl ⟨by rfl, ?yQ6⟩) hHeld ?rQ6
      case yQ6 => (intro W hSw; simp only [List.getElem_toArray, List.getElem_cons_succ, List.getElem_cons_zero]; go_simp; try (with_reducible rfl))
      simp only [List.getElem_toArray, List.getElem_cons_succ, List.getElem_cons_zero, Act.put, List.setIfInBounds_toArray, List.set_cons_zero, List.set_cons_succ]
      refine wpAnyH_take (i := 7) (v := ?vQ7) rfl (by kernel_rfl) (by kernel_rfl) (by kernel_rfl) (fun _ _ _ h => h) (Or.inl ⟨by rfl, ?yQ7⟩) hHeld ?rQ7
      case yQ7 => (intro W hSw; simp only [List.getElem_toArray, List.getElem_cons_succ, List.getElem_cons_zero]; go_simp; try (with_reducible rfl))
      simp only [List.getElem_toArray, List.getElem_cons_succ, List.getElem_cons_zero, Act.put, List.setIfInBounds_toArray, List.set_cons_zero, List.set_cons_succ]
      refine wpAnyH_take (i := 8) (v := ?vQ8) rfl (by kernel_rfl) (by kernel_rfl) (by kernel_rfl) (fun _ _ _ h => h) (Or.inl ⟨by rfl, ?yQ8⟩) hHeld ?rQ8
      case yQ8 => (intro W hSw; simp only [List.getElem_toArray, List.getElem_cons_succ, List.getElem_cons_zero]; go_simp; try (with_reducible rfl))
      simp only [List.getElem_toArray, List.getElem_cons_succ, List.getElem_cons_zero, Act.put, List.setIfInBounds_toArray, List.set_cons_zero, List.set_cons_succ]
      refine wpAnyH_take (i := 9) (v := ?vQ9) rfl (by kernel_rfl) (by kernel_rfl) (by kernel_rfl) (fun _ _ _ h => h) (Or.inl ⟨by rfl, ?yQ9⟩) hHeld ?rQ9
      case yQ9 => (intro W hSw; simp only [List.getElem_toArray, List.getElem_cons_succ, List.getElem_cons_zero]; go_simp; try (with_reducible rfl))
      simp only [List.getElem_toArray, List.getElem_cons_succ, List.getElem_cons_zero, Act.put, List.setIfInBounds_toArray, List.set_cons_zero, List.set_cons_succ]
      refine wpAnyH_take (i := 10) (v := ?vQ10) rfl (by kernel_rfl) (by kernel_rfl) (by kernel_rfl) (fun _ _ _ h => h) (Or.inl ⟨by rfl, ?yQ10⟩) hHeld ?rQ10
      case yQ10 => (intro W hSw; simp only [List.getElem_toArray, List.getElem_cons_succ, List.getElem_cons_zero]; go_simp; try (with_reducible rfl))
      simp only [List.getElem_toArray, List.getElem_cons_succ, List.getElem_cons_zero, Act.put, List.setIfInBounds_toArray, List.set_cons_zero, List.set_cons_succ]
      refine wpAnyH_take (i := 11) (v := ?vQ11) rfl (by kernel_rfl) (by kernel_rfl) (by kernel_rfl) (fun _ _ _ h => h) (Or.inl ⟨by rfl, ?yQ11⟩) hHeld ?rQ11
      case yQ11 => (intro W hSw; simp only [List.getElem_toArray, List.getElem_cons_succ, List.getElem_cons_zero]; go_simp; try (with_reducible rfl))
      simp only [List.getElem_toArray, List.getElem_cons_succ, List.getElem_cons_zero, Act.put, List.setIfInBounds_toArray, List.set_cons_zero, List.set_cons_succ]
      refine wpAnyH_ready (rs := [12]) (by kernel_rfl) (by simp) (AllReadyH.cons rfl (fun K hK => ?_) AllReadyH.nil)
      simp only [List.getElem_toArray, List.getElem_cons_succ, List.getElem_cons_zero]
      go_simp

      obtain ⟨w4, hw4⟩ : ∃ v, v = (setF w3 wr.heap.size kr).drew := ⟨_, rfl⟩
      have hw4e := hw4
      unfold setF at hw4e
      rw [← hw4e]
      have K4 : Ke (fun q => q = wr.heap.size) w3 w4 := by rw [hw4]; exact (setF_ke _ _ _).drew
      have o4' : w4.heap[wr.heap.size]? = some (.cells (rC kr) 26 (0, 0)) := by rw [hw4]; exact setF_obj (a := ⟨0, 0, 0, 0⟩) O3.out
      have K4h := Lib.hid K4
      refine hK.out _ _ (HS.out _ K4) (fun hHeld1 => ?_)
      clear hK K hHeld hHeld1
      refine wpAnyH_done (by kernel_rfl) ?_ _
      obtain ⟨y0, y1, y2, y3, y4, -, -, -, -⟩ := HS.out _ K4
      have O4 := Lib.hid o4'
      clear hw4 hw4e K4 o4' x0 x1 x2 x3 x4 x5 xf f0 f1 f2 f3 f4 g0 g5 ck3 oc0 oc1 oc2 oc3 os0
      have RR4 := Lib.hid (show w4.heap[W.heap.size + 1]? = some (.cells (rC (hull σ ((kidsOf σ u.b).take j))) 26 (0, 0)) from (K4h.out.block _ (by omega) (by omega)).trans R3.out)
      have MAY := Lib.hid (show may4 kr ∧ (j ≠ 0 → may4 (hull σ ((kidsOf σ u.b).take j))) from by
        have hkm : ∀ q ∈ kidsOf σ u.b, may4 (rOf σ q) := fun q hq => (HD6.out q hq).may
        refine ⟨by rw [EKR.out]; exact hkm k (List.mem_of_getElem? HK.out), fun hj => hullF_may fun r hr => ?_⟩
        obtain ⟨q, hq, rfl⟩ := List.mem_map.1 hr
        exact hkm q (List.mem_of_mem_take hq))
      have FINc := Lib.hid (show ∀ c, c ∈ inn σ (l + 1) v.b ++ (((kidsOf σ u.b).take j).flatMap (inn σ u.l) ++ (u.b :: B)) ↔ c ∈ ((kidsOf σ u.b).take (j + 1)).flatMap (inn σ u.l) ++ (u.b :: B) from fun c => by
        rw [flat_snoc HK.out, vb, HUL.out]
        simp only [List.mem_append]
        constructor
        · rintro (h | h | h)
          · exact Or.inl (Or.inr h)
          · exact Or.inl (Or.inl h)
          · exact Or.inr h
        · rintro ((h | h) | h)
          · exact Or.inr (Or.inl h)
          · exact Or.inl h
          · exact Or.inr (Or.inr h))
      have FINi := Lib.hid (show items + (((kidsOf σ u.b).take j).flatMap (lvs σ u.l)).length + (lvs σ (l + 1) v.b).length = items + (((kidsOf σ u.b).take (j + 1)).flatMap (lvs σ u.l)).length from by
        rw [flat_snoc HK.out, vb, HUL.out, List.length_append]
        omega)
      have hjr := HK.out
      by_cases hj00 : j = 0
      · have hjb : ((j : Int) == 0) = true := by simp; omega
        have m1 := MAY.out.1
        have RES := Lib.hid (show hull σ ((kidsOf σ u.b).take (j + 1)) = joinR kr kr from by rw [hull_snoc HK.out, if_pos hj00, ← EKR.out])
        have CJ := Lib.hid (fun W => refJoin_any kr.x1 kr.y1 kr.x2 kr.y2 kr.x1 kr.y1 kr.x2 kr.y2 W (may_in2 m1).1 (may_in2 m1).2 (may_in2 m1).1 (may_in2 m1).2)
        obtain ⟨hr, ehr⟩ : ∃ hr, hr = hull σ ((kidsOf σ u.b).take j) := ⟨_, rfl⟩
        rw [← ehr] at RR4
        have DR : ∀ (q b : Nat) (r : R4), w4.heap[b]? = some (Obj.cells (rC r) 26 (0, 0)) → (w4.drewN q).heap[b]? = some (Obj.cells (rC r) 26 (0, 0)) := fun q b r h => h
        have oq0 : ∀ q, (w4.drewN q).cell? ⟨wr.heap.size, 0, none⟩ = some (.int .i64 kr.x1) := fun q => (rc_cells (DR q _ _ O4.out)).1
        have oq1 : ∀ q, (w4.drewN q).cell? ⟨wr.heap.size, 1, none⟩ = some (.int .i64 kr.y1) := fun q => (rc_cells (DR q _ _ O4.out)).2.1
        have oq2 : ∀ q, (w4.drewN q).cell? ⟨wr.heap.size, 2, none⟩ = some (.int .i64 kr.x2) := fun q => (rc_cells (DR q _ _ O4.out)).2.2.1
        have oq3 : ∀ q, (w4.drewN q).cell? ⟨wr.heap.size, 3, none⟩ = some (.int .i64 kr.y2) := fun q => (rc_cells (DR q _ _ O4.out)).2.2.2.1
        have rq0 : ∀ q, (w4.drewN q).cell? ⟨W.heap.size + 1, 0, none⟩ = some (.int .i64 hr.x1) := fun q => (rc_cells (DR q _ _ RR4.out)).1
        have rq1 : ∀ q, (w4.drewN q).cell? ⟨W.heap.size + 1, 1, none⟩ = some (.int .i64 hr.y1) := fun q => (rc_cells (DR q _ _ RR4.out)).2.1
        have rq2 : ∀ q, (w4.drewN q).cell? ⟨W.heap.size + 1, 2, none⟩ = some (.int .i64 hr.x2) := fun q => (rc_cells (DR q _ _ RR4.out)).2.2.1
        have rq3 : ∀ q, (w4.drewN q).cell? ⟨W.heap.size + 1, 3, none⟩ = some (.int .i64 hr.y2) := fun q => (rc_cells (DR q _ _ RR4.out)).2.2.2.1
        have rqf : ∀ q c, (w4.drewN q).frozen? ⟨W.heap.size + 1, c, none⟩ = false := fun q => (rc_cells (DR q _ _ RR4.out)).2.2.2.2
        have so : ∀ q, (setF (w4.drewN q) (W.heap.size + 1) kr).heap[wr.heap.size]? = some (Obj.cells (rC kr) 26 (0, 0)) := fun q => ((setF_ke _ _ _).block _ (by show wr.heap.size < w4.heap.size; have h5 := K4h.out.size; omega) (by omega)).trans O4.out
        have sr : ∀ q, (setF (w4.drewN q) (W.heap.size + 1) kr).heap[W.heap.size + 1]? = some (Obj.cells (rC kr) 26 (0, 0)) := fun q => setF_obj (DR q _ _ RR4.out)
        have SRH := Lib.hid sr
        have so0 := fun q => (rc_cells (so q)).1
        have so1 := fun q => (rc_cells (so q)).2.1
        have so2 := fun q => (rc_cells (so q)).2.2.1
        have so3 := fun q => (rc_cells (so q)).2.2.2.1
        have sr0 := fun q => (rc_cells (sr q)).1
        have sr1 := fun q => (rc_cells (sr q)).2.1
        have sr2 := fun q => (rc_cells (sr q)).2.2.1
        have sr3 := fun q => (rc_cells (sr q)).2.2.2.1
        unfold setF at so0 so1 so2 so3 sr0 sr1 sr2 sr3
        clear ehr m1 so sr hj00
        go_wp2_with fail
        go_big_quiet (fail)
        go_wp2_with fail
        refine (CJ.out _).mono ?_
        rintro e w5 ⟨rfl, hb5⟩
        have k4 := K4h.out
        have KD : Ke (fun q => q = wr.heap.size) w3 (w4.drewN nq) := ⟨k4.os, k4.tape, k4.output, k4.size, k4.block⟩
        have zz := KD.size
        have KS : Ke (fun q => q = W.heap.size + 1) (w4.drewN nq) (setF (w4.drewN nq) (W.heap.size + 1) kr) := setF_ke _ _ _
        have hb5 : Below (setF (w4.drewN nq) (W.heap.size + 1) kr).heap.size (setF (w4.drewN nq) (W.heap.size + 1) kr) w5 := hb5
        have r5 : w5.heap[W.heap.size + 1]? = some (Obj.cells (rC kr) 26 (0, 0)) := (hb5.block _ (by have h5 := KS.size; have h6 : (w4.drewN nq).heap.size = w4.heap.size := rfl; have h7 := k4.size; omega)).trans (SRH.out nq)
        obtain ⟨s0, s1, s2, s3, sf⟩ := rc_cells r5
        have FIN := Lib.hid (show Lo w1 x m2 (.slice (some ⟨gL, 0, none⟩) NL cL) o t L σ B items u W W.heap.size (W.heap.size + 1) (j + 1) (setF w5 (W.heap.size + 1) (joinR kr kr)) from by
          refine Lo.next LO.out (by omega) ⟨by omega, by omega⟩ hw1 BO.out L3.out K3.out ?_ ?_ FINc.out FINi.out
          · exact (((KD.mono (Y := fun q => q = wr.heap.size ∨ q = W.heap.size + 1) (fun g _ h => Or.inl h)).trans KS (fun g _ h => Or.inr h)).below hb5).trans (setF_ke _ _ _) (fun g _ h => Or.inr h)
          · rw [RES.out]
            exact setF_obj r5)
        have HJN := Lib.hid (show j + 1 ≤ (kidsOf σ u.b).length by rw [HKD.out, ← HN.out]; omega)
        unfold setF joinR at FIN
        clear k4 KD zz r5 hb5 DR KS
        go_wp2_with fail
        go_roundw
        case rel => first | exact ⟨j + 1, by go_num, HJN.out, FIN.out⟩ | ((repeat apply Exists.intro); exact ⟨⟨j + 1, by go_num, HJN.out, FIN.out⟩, rfl⟩)
        case measure => simp [intOf]; omega
      · have hjb : ((j : Int) == 0) = false := by simp; omega
        have m1 := MAY.out.1
        have m2' := MAY.out.2 hj00
        obtain ⟨hr, ehr⟩ : ∃ hr, hr = hull σ ((kidsOf σ u.b).take j) := ⟨_, rfl⟩
        have EHR := Lib.hid ehr
        rw [← ehr] at RR4 m2'
        have RES := Lib.hid (show hull σ ((kidsOf σ u.b).take (j + 1)) = joinR hr kr from by rw [hull_snoc HK.out, if_neg hj00, ← EKR.out, ← EHR.out])
        have CJ := Lib.hid (fun W => refJoin_any hr.x1 hr.y1 hr.x2 hr.y2 kr.x1 kr.y1 kr.x2 kr.y2 W (may_in2 m2').1 (may_in2 m2').2 (may_in2 m1).1 (may_in2 m1).2)
        have DR : ∀ (q b : Nat) (r : R4), w4.heap[b]? = some (Obj.cells (rC r) 26 (0, 0)) → (w4.drewN q).heap[b]? = some (Obj.cells (rC r) 26 (0, 0)) := fun q b r h => h
        have oq0 : ∀ q, (w4.drewN q).cell? ⟨wr.heap.size, 0, none⟩ = some (.int .i64 kr.x1) := fun q => (rc_cells (DR q _ _ O4.out)).1
        have oq1 : ∀ q, (w4.drewN q).cell? ⟨wr.heap.size, 1, none⟩ = some (.int .i64 kr.y1) := fun q => (rc_cells (DR q _ _ O4.out)).2.1
        have oq2 : ∀ q, (w4.drewN q).cell? ⟨wr.heap.size, 2, none⟩ = some (.int .i64 kr.x2) := fun q => (rc_cells (DR q _ _ O4.out)).2.2.1
        have oq3 : ∀ q, (w4.drewN q).cell? ⟨wr.heap.size, 3, none⟩ = some (.int .i64 kr.y2) := fun q => (rc_cells (DR q _ _ O4.out)).2.2.2.1
        have rq0 : ∀ q, (w4.drewN q).cell? ⟨W.heap.size + 1, 0, none⟩ = some (.int .i64 hr.x1) := fun q => (rc_cells (DR q _ _ RR4.out)).1
        have rq1 : ∀ q, (w4.drewN q).cell? ⟨W.heap.size + 1, 1, none⟩ = some (.int .i64 hr.y1) := fun q => (rc_cells (DR q _ _ RR4.out)).2.1
        have rq2 : ∀ q, (w4.drewN q).cell? ⟨W.heap.size + 1, 2, none⟩ = some (.int .i64 hr.x2) := fun q => (rc_cells (DR q _ _ RR4.out)).2.2.1
        have rq3 : ∀ q, (w4.drewN q).cell? ⟨W.heap.size + 1, 3, none⟩ = some (.int .i64 hr.y2) := fun q => (rc_cells (DR q _ _ RR4.out)).2.2.2.1
        clear ehr m1 m2'
        go_wp2_with fail
        go_big_quiet (fail)
        go_wp2_with fail
        refine (CJ.out _).mono ?_
        rintro e w5 ⟨rfl, hb5⟩
        have k4 := K4h.out
        have KD : Ke (fun q => q = wr.heap.size) w3 (w4.drewN nq) := ⟨k4.os, k4.tape, k4.output, k4.size, k4.block⟩
        have zz := KD.size
        have r5 : w5.heap[W.heap.size + 1]? = some (Obj.cells (rC hr) 26 (0, 0)) := (hb5.block _ (by show W.heap.size + 1 < w4.heap.size; have h5 := k4.size; omega)).trans (DR nq _ _ RR4.out)
        obtain ⟨s0, s1, s2, s3, sf⟩ := rc_cells r5
        have FIN := Lib.hid (show Lo w1 x m2 (.slice (some ⟨gL, 0, none⟩) NL cL) o t L σ B items u W W.heap.size (W.heap.size + 1) (j + 1) (setF w5 (W.heap.size + 1) (joinR hr kr)) from by
          refine Lo.next LO.out (by omega) ⟨by omega, by omega⟩ hw1 BO.out L3.out K3.out ?_ ?_ FINc.out FINi.out
          · exact ((KD.mono (fun g _ h => Or.inl h)).below hb5).trans (setF_ke _ _ _) (fun g _ h => Or.inr h)
          · rw [RES.out]
            exact setF_obj r5)
        have HJN := Lib.hid (show j + 1 ≤ (kidsOf σ u.b).length by rw [HKD.out, ← HN.out]; omega)
        unfold setF joinR at FIN
        clear k4 KD zz r5 hb5 DR
        go_wp2_with fail
        go_roundw
        case rel => first | exact ⟨j + 1, by go_num, HJN.out, FIN.out⟩ | ((repeat apply Exists.intro); exact ⟨⟨j + 1, by go_num, HJN.out, FIN.out⟩, rfl⟩)
        case measure => simp [intOf]; omega

    · have hlz : ¬ (j : Int) < (n : Int) := by omega
      have hk : (kidsOf σ u.b).take j = kidsOf σ u.b := List.take_of_length_le (by rw [HKD.out, ← HN.out]; omega)
      have hR := hLO.rr
      rw [hk, HKD.out, ← HD5.out, HRD.out] at hR
      have hN2 := hLO.nn
      rw [HCE.out] at hN2
      have c0 : wr.cell? ⟨W.heap.size + 1, 0, none⟩ = some (.int .i64 r1) := by simp [World.cell?, hR, rC]
      have c1 : wr.cell? ⟨W.heap.size + 1, 1, none⟩ = some (.int .i64 r2) := by simp [World.cell?, hR, rC]
      have c2 : wr.cell? ⟨W.heap.size + 1, 2, none⟩ = some (.int .i64 r3) := by simp [World.cell?, hR, rC]
      have c3 : wr.cell? ⟨W.heap.size + 1, 3, none⟩ = some (.int .i64 r4) := by simp [World.cell?, hR, rC]
      have e1 : wr.cell? ⟨W.heap.size, 1, none⟩ = some (.int .i64 r1) := by simp [World.cell?, hN2]
      have e2 : wr.cell? ⟨W.heap.size, 2, none⟩ = some (.int .i64 r2) := by simp [World.cell?, hN2]
      have e3 : wr.cell? ⟨W.heap.size, 3, none⟩ = some (.int .i64 r3) := by simp [World.cell?, hN2]
      have e4 : wr.cell? ⟨W.heap.size, 4, none⟩ = some (.int .i64 r4) := by simp [World.cell?, hN2]
      have q5 := neq_four r1 r2 r3 r4
      have FIN := Lib.hid (show NodeE w1 x m2 (.slice (some ⟨gL, 0, none⟩) NL cL) o t L σ B items u.b (l + 1) W (.returned (.tuple #[])) wr from by
        have h1 := hLO.lk
        rw [hk] at h1
        refine ⟨rfl, ?_, hLO.ke⟩
        rw [HUL.out] at h1
        refine Lk.congr (B := (kidsOf σ u.b).flatMap (inn σ (l + 1)) ++ (u.b :: B)) h1 fun c => ?_
        show _ ↔ c ∈ (u.b :: (kidsOf σ u.b).flatMap (inn σ (l + 1))) ++ B
        simp only [List.mem_append, List.mem_cons, List.cons_append]
        constructor
        · rintro (h | h | h)
          · exact Or.inr (Or.inl h)
          · exact Or.inl h
          · exact Or.inr (Or.inr h)
        · rintro (h | h | h)
          · exact Or.inr (Or.inl h)
          · exact Or.inl h
          · exact Or.inr (Or.inr h))
      clear hR hN2 hk hLO LO hj hlt
      go_wp2_with fail
      refine bodyPost_end (v := .tuple #[]) ?hv ?hd ?hr
      case hv => simp [results, Tryz.results27, go_sem]
      case hd => rfl
      case hr => exact FIN.out
end Go.Proofs.YtobkgamcjfjghaaGreat.Rt
namespace Go.Proofs.YtobkgamcjfjghaaGreat.Rt
open Go.RowKit Go.Joins Go.Proofs.YtobkgamcjfjghaaGreat.Pt Go.Proofs.YtobkgamcjfjghaaGreat.Rc Go.Proofs.YtobkgamcjfjghaaGreat.Rs
set_option linter.unusedVariables false
set_option linter.unusedSimpArgs false
set_option maxHeartbeats 8000000
set_option maxRecDepth 100000

theorem node_in (w1 : World) (σ : St) (V : Nat → Value) (t o mb root h : Nat) (M : Int → Option Nat) (G : List Nat) (gL cL : Nat) (L : List (Nat × Nat)) (T : List Tn) (x m2 : Nat) (EV : Ev w1 σ V t o mb root h M G gL L T) (o1 : 4 ≤ o) (o2 : o ≤ 16) : ∀ (l : Nat), l ≤ 100000 → ∀ (p : Nat) (u : Tn) (B : List Nat) (items : Nat) (W : World), T[p]? = some u → u.l = l → 0 < p → Nd σ (leastN o) o (l + 1) u.b → (∀ c ∈ inn σ (l + 1) u.b, c ∉ B) → (inn σ (l + 1) u.b).Nodup → (∀ c ∈ lvs σ (l + 1) u.b, c ∈ G) → items + (lvs σ (l + 1) u.b).length ≤ 100000 → Lk w1 x m2 (.slice (some ⟨gL, 0, none⟩) L.length cL) o t L B items W → Calls Tryz.prog 27 #[ptr x, .int .i64 (p : Int)] W (NodeE w1 x m2 (.slice (some ⟨gL, 0, none⟩) L.length cL) o t L σ B items u.b l W) := by
  intro l
  induction l with
  | zero =>
    intro _ p u B items W h1 h2 h3 h4 h5 h6 h7 h8 h9
    exact node_leaf w1 σ V t o mb root h M G gL cL L T x m2 EV o1 o2 p u B items W h1 h2 h3 h4 h5 h6 h7 h8 h9
  | succ l ih =>
    intro hl p u B items W h1 h2 h3 h4 h5 h6 h7 h8 h9
    exact node_inner w1 σ V t o mb root h M G gL cL L T x m2 EV o1 o2 l (ih (by omega)) p u B items W (by omega) h1 h2 h3 h4 h5 h6 h7 h8 h9
theorem inn_nodup {σ : St} {h b : Nat} {E : List Nat} (hn : (blks σ h b ++ E).Nodup) : (inn σ h b).Nodup := (List.nodup_append.1 hn).1.sublist (inn_sub σ h b)
/-- How many inner parts: no more than there are items, and one. -/
theorem inn_few {σ : St} {lo hi : Nat} (h2 : 2 ≤ lo) : ∀ (h b : Nat), Nd σ lo hi h b → 1 ≤ h → (inn σ h b).length + 1 ≤ (lvs σ h b).length := by
  intro h
  induction h with
  | zero => intro b _ h0; omega
  | succ h ih0 =>
    intro b hn _
    obtain ⟨d, d1, d2, d3, d4, d5, d6⟩ := hn
    rw [lvs_self d1]
    simp only [inn, kidsOf_some d1, List.length_cons]
    have key : ∀ ks : List Nat, (∀ k ∈ ks, Nd σ lo hi h k) → (ks.flatMap (inn σ h)).length + ks.length ≤ (ks.flatMap (lvs σ h)).length := by
      intro ks
      induction ks with
      | nil => intro _; simp
      | cons k ks ih =>
        intro hk
        have h1 := ih (fun q hq => hk q (List.mem_cons_of_mem _ hq))
        have h3 : (inn σ h k).length + 1 ≤ (lvs σ h k).length := by
          cases h with
          | zero => simp [inn, lvs]
          | succ h => exact ih0 k (hk k (List.mem_cons_self ..)) (by omega)
        rw [List.flatMap_cons, List.flatMap_cons, List.length_append, List.length_append, List.length_cons]
        omega
    have := key d.kids d6
    omega
theorem Tree.inns {σ : St} {lo hi rlo h b : Nat} {E G : List Nat} (h2 : 2 ≤ lo) (ht : Tree σ lo hi rlo h b E G) : (inn σ (h + 1) b).length ≤ G.length + 1 := by
  obtain ⟨d, d1, d2, d3, d4, d5, d6, d7, d8⟩ := ht
  rw [← d8.length_eq, lvs_self d1]
  simp only [inn, kidsOf_some d1, List.length_cons]
  have key : ∀ ks : List Nat, (∀ k ∈ ks, Nd σ lo hi h k) → (ks.flatMap (inn σ h)).length ≤ (ks.flatMap (lvs σ h)).length := by
    intro ks
    induction ks with
    | nil => intro _; simp
    | cons k ks ih =>
      intro hk
      have h1 := ih (fun q hq => hk q (List.mem_cons_of_mem _ hq))
      have h3 : (inn σ h k).length ≤ (lvs σ h k).length := by
        cases h with
        | zero => simp [inn, lvs]
        | succ h => have := inn_few h2 _ k (hk k (List.mem_cons_self ..)) (by omega); omega
      rw [List.flatMap_cons, List.flatMap_cons, List.length_append, List.length_append]
      omega
  have := key d.kids d3
  omega
theorem A.infoBo : (Tryz.prog.info? 4).map (fun i => (i.zero, i.size, i.bytes)) = some (some (.bool false), 1, 1) := by kernel_rfl
theorem made_mets (L : List (Nat × Nat)) : (madeCells #[.bool false] L.length).toList = metL L [] := by
  rw [metL_nil]
  apply List.ext_getElem
  · simp [madeCells]
  · intro i h1 h2
    simp [madeCells, Nat.mod_one]
def AmR (N : Nat) (w6 : World) (vi : Value) (wr : World) : Prop := ∃ j : Nat, vi = .int .i64 (j : Int) ∧ j ≤ N ∧ wr = w6
theorem amiss_any (t o mb root h : Nat) (σ : St) (V : Nat → Value) (M : Int → Option Nat) (G : List Nat) (w : World) (hX : Idx w t o σ V mb root h M G) (o1 : 4 ≤ o) (o2 : o ≤ 16) (hG : G.length ≤ 2500) (hwf : ∀ k ∈ G, wf64 (idOf σ k)) :
    Calls Tryz.prog 13 #[ptr t, .int .i64 (o : Int)] w fun e w' => e = .returned (.int .i64 0) ∧ Below w.heap.size w w' := by
  have hl2 : 2 ≤ leastN o := by unfold leastN; omega
  have CN := Lib.hid (nodes_any t o mb root h σ V (leastN o) o 2 [] G w hX.mem hX.tree hX.sound (by omega) (Nat.le_trans (hX.sound.inns hl2) (by omega)))
  have XX := Lib.hid hX
  have HWF := Lib.hid hwf
  obtain ⟨i0, hi0, hz0, hz1, hz2⟩ := info_parts A.infoBo
  unfold ptr at CN ⊢
  clear hX hwf
  go_enter Tryz.func13, Tryz.ntmps13
  go_wp2_with fail
  refine Calls.mono CN.out ?_
  rintro e w1 ⟨s, vn, L, T, rfl, hNo⟩
  have B1 := Lib.hid hNo.below
  obtain ⟨N, hN⟩ : ∃ N, N = L.length := ⟨_, rfl⟩
  have hh := hNo.bf.head
  have hN0 : 0 < N := by
    cases hL : L with
    | nil => rw [hL] at hh; cases hh
    | cons a l => rw [hN, hL]; simp
  obtain ⟨gL, cL, es⟩ : ∃ gL cL, s = .slice (some ⟨gL, 0, none⟩) N cL := by
    rcases hNo.told.2 with ⟨e, e2⟩ | ⟨g, c, cur, e, _⟩
    · omega
    · exact ⟨g, c, by rw [hN]; exact e⟩
  subst es
  have hle := Nat.le_trans hNo.bf.len (XX.out.sound.inns hl2)
  have EV := Lib.hid (show Ev w1 σ V t o mb root h M G gL L T from by
    have hpre : T.map (fun u => (u.b, u.l)) = L := by rw [hNo.pre, List.take_length]
    have hto := hNo.told
    rw [← hN] at hto
    refine ⟨XX.out.later B1.out, fun p u hp c hc => ?_, hNo.kids, hNo.bf, hpre, (hto.lt gL rfl).2, ?_, HWF.out⟩
    · obtain ⟨hpT, ep⟩ := List.getElem?_eq_some_iff.1 hp
      have hTL : T.length = N := by rw [hN, ← hpre, List.length_map]
      rw [hto.cellAt (p * 6 + c) (by omega), tn_at σ T p c hpT hc, ep]
    · obtain ⟨d, d1, d2, d3, d4, d5, d6, d7, d8⟩ := XX.out.sound
      exact (hNo.bf.done.nodup_iff).2 (inn_nodup d7))
  have hN1 : N ≤ 100000 := by omega
  have HNE := Lib.hid hN
  have HHEAD := Lib.hid hh
  have HDONE := Lib.hid hNo.bf.done
  clear hNo hh hle CN hN
  have hNb : ((N : Int) == 0) = false := by simp; omega
  go_wp2_with (first | (at_make; refine wpList_make_full _ rfl _ _ 69 rfl w1.heap.size 4 i0 (.bool false) 1 Tryz.underlying69 hi0 hz0 hz1 .i64 .i64 _ N N rfl rfl rfl rfl (by rw [hz2]; omega) (by unfold maxLen; omega) (Nat.le_refl _) ?_))
  intro w2 hown hgrow
  obtain ⟨m2, hm2⟩ : ∃ m2, m2 = w1.heap.size := ⟨_, rfl⟩
  obtain ⟨w3, hw3⟩ : ∃ v, v = w2.alloc (.cells #[.slice (some ⟨gL, 0, none⟩) N cL, .int .i64 (o : Int), ptr t, .slice (some ⟨m2, 0, none⟩) N N, .int .i64 0, .bool false] 71) := ⟨_, rfl⟩
  have hb2 : Below w1.heap.size w1 w2 := (Below.refl _ _).grown hgrow (Nat.le_refl _) (fun k hk => by cases hk)
  have hb3 : Below w2.heap.size w2 w3 := by rw [hw3]; exact (Below.refl _ _).alloc (Nat.le_refl _) _
  obtain ⟨x, hx⟩ : ∃ x, x = w2.heap.size := ⟨_, rfl⟩
  have LK0 := Lib.hid (show Lk w1 x m2 (.slice (some ⟨gL, 0, none⟩) L.length cL) o t L [] 0 w3 from by
    refine ⟨hb2.trans (hb3.mono hb2.size), ?_, ?_, by rw [hx]; exact hb2.size⟩
    · rw [hw3, hx, ← HNE.out]
      exact (MapKept.heap_alloc w2 _).1
    · have h1 : w2.ownsRow w1.heap.size 4 1 (.slice (some ⟨w1.heap.size, 0, none⟩) N N) N (madeCells #[.bool false] N).toList := hown
      rw [HNE.out, made_mets, ← hm2] at h1
      rw [hw3]
      have := h1.alloc (.cells #[.slice (some ⟨gL, 0, none⟩) N cL, .int .i64 (o : Int), ptr t, .slice (some ⟨m2, 0, none⟩) N N, .int .i64 0, .bool false] 71)
      rw [← hm2]
      exact this)
  have CL0 := Lib.hid (show ∃ r B, Calls Tryz.prog 27 #[ptr x, .int .i64 0] w3 (NodeE w1 x m2 (.slice (some ⟨gL, 0, none⟩) L.length cL) o t L σ B 0 r h w3) ∧ r = root ∧ B = [] from by
    obtain ⟨u, hu, hub, hul⟩ : ∃ u, T[0]? = some u ∧ u.b = root ∧ u.l = h := by
      have h1 := HHEAD.out
      rw [← EV.out.pre, List.getElem?_map] at h1
      cases hT : T[0]? with
      | none => rw [hT] at h1; cases h1
      | some u =>
        rw [hT] at h1
        have h2 := Option.some.inj h1
        exact ⟨u, rfl, congrArg Prod.fst h2, congrArg Prod.snd h2⟩
    obtain ⟨d, d1, d2, d3, d4, d5, d6, d7, d8⟩ := id XX.out.sound
    have hnd : Nd σ 0 o (h + 1) u.b := by rw [hub]; exact XX.out.sound.nd
    have a1 : ∀ c ∈ inn σ (h + 1) u.b, c ∉ ([] : List Nat) := fun c _ h => by cases h
    have a2 : (inn σ (h + 1) u.b).Nodup := by rw [hub]; exact inn_nodup d7
    have a3 : ∀ c ∈ lvs σ (h + 1) u.b, c ∈ G := fun c hc => (d8.mem_iff).1 (by rw [← hub]; exact hc)
    have a4 : 0 + (lvs σ (h + 1) u.b).length ≤ 100000 := by rw [hub, d8.length_eq]; omega
    refine ⟨u.b, [], ?_, hub, rfl⟩
    cases h with
    | zero => exact root_leaf w1 σ V t o mb root 0 M G gL cL L T x m2 EV.out o1 o2 0 u [] 0 w3 hu hul rfl hnd a1 a2 a3 a4 LK0.out
    | succ h =>
      have hhi := XX.out.sound.high hl2 (by omega)
      exact root_inner w1 σ V t o mb root (h + 1) M G gL cL L T x m2 EV.out o1 o2 h (node_in w1 σ V t o mb root (h + 1) M G gL cL L T x m2 EV.out o1 o2 h (by omega)) 0 u [] 0 w3 (by omega) hu hul rfl hnd (by rw [hub, kidsOf_some d1]; exact d4 (by omega)) (by rw [hub, kidsOf_some d1]; exact d3) a1 a2 a3 a4 LK0.out)
  obtain ⟨r0, B0, CALL, hr0, hB0⟩ := CL0.out
  subst hr0
  subst hB0
  have CC := Lib.hid CALL
  have B3 := Lib.hid (hb2.trans (hb3.mono hb2.size))
  rw [← hm2]
  have HM2 := Lib.hid hm2
  have HW3 := Lib.hid hw3
  have HXX := Lib.hid hx
  have X3 := Lib.hid hb3
  unfold ptr at CC hw3
  rw [hw3, hx] at CC
  clear CALL CL0 hown hgrow hw3 hb2 hb3 hm2 hx
  go_wp2_with fail
  refine Calls.mono CC.out ?_
  rintro e w4 ⟨rfl, LK4, KE4⟩
  rw [← HXX.out] at LK4 ⊢
  obtain ⟨ng, eng⟩ : ∃ ng, ng = G.length := ⟨_, rfl⟩
  have hng : 0 + (lvs σ (h + 1) r0).length = ng := by
    obtain ⟨d, d1, d2, d3, d4, d5, d6, d7, d8⟩ := id XX.out.sound
    rw [d8.length_eq, eng, Nat.zero_add]
  rw [hng] at LK4
  obtain ⟨x0, x1, x2, x3, x4, x5, xf⟩ := LK4.cells
  have hms : ∀ i, i < N → w4.cell? ⟨m2, i, none⟩ = some (.bool true) := fun i hi => by
    have hiL : i < L.length := by rw [← HNE.out]; exact hi
    obtain ⟨⟨b, l⟩, hbl⟩ : ∃ q, L[i]? = some q := ⟨_, List.getElem?_eq_getElem hiL⟩
    rw [LK4.met.cellAt i (by omega), metL_at hbl, decide_eq_true (by
      rw [List.append_nil]
      refine (HDONE.out.mem_iff).1 (List.mem_map.2 ⟨(b, l), List.mem_of_getElem? hbl, rfl⟩))]
  rw [← HNE.out] at x3
  have B4 := Lib.hid (B1.out.trans (LK4.below.mono B1.out.size))
  have HS : Hid (∀ Wz, Below w4.heap.size w4 Wz → (fun Wz : World => Wz.cell? ⟨x, 4, none⟩ = some (.int .i64 (ng : Int)) ∧ Wz.cell? ⟨x, 5, none⟩ = some (.bool false) ∧ Wz.cell? ⟨x, 3, none⟩ = some (.slice (some ⟨m2, 0, none⟩) N N) ∧ (∀ i, i < N → Wz.cell? ⟨m2, i, none⟩ = some (.bool true)) ∧ Below w.heap.size w Wz) Wz) := Lib.hid fun Wz hz => by
    have hc : ∀ (q a : Nat) (y : Value), w4.cell? ⟨q, a, none⟩ = some y → Wz.cell? ⟨q, a, none⟩ = some y := fun q a y hy => (World.cell?_of_block (hz.block q (World.block_lt_of_cell? _ _ hy))).trans hy
    exact ⟨hc _ _ _ x4, hc _ _ _ x5, hc _ _ _ x3, fun i hi => hc _ _ _ (hms i hi), B4.out.trans (hz.mono B4.out.size)⟩
  have CL := Lib.hid (show ∀ Wz, Below w.heap.size w Wz → Calls Tryz.prog 15 #[.pointer (some ⟨t, 0, none⟩)] Wz fun e w' => e = .returned (.int .i64 (ng : Int)) ∧ Below Wz.heap.size Wz w' from fun Wz hz => by
    refine Calls.mono (len_any t o mb r0 h σ V M G Wz (XX.out.later hz)) ?_
    rintro e w' ⟨rfl, rfl⟩
    exact ⟨by rw [eng], Below.refl _ _⟩)
  have ENG := Lib.hid eng
  clear LK4 KE4 x0 x1 x2 x3 x4 x5 xf hms eng hng
  go_wp2_with fail
  refine wp_region_held_drew (S := (fun Wz : World => Wz.cell? ⟨x, 4, none⟩ = some (.int .i64 (ng : Int)) ∧ Wz.cell? ⟨x, 5, none⟩ = some (.bool false) ∧ Wz.cell? ⟨x, 3, none⟩ = some (.slice (some ⟨m2, 0, none⟩) N N) ∧ (∀ i, i < N → Wz.cell? ⟨m2, i, none⟩ = some (.bool true)) ∧ Below w.heap.size w Wz)) (by kernel_rfl) (by exact HS.out _ (Below.drew (Below.refl _ _))) (fun hHeld => ?_)
  refine wpAnyH_take (i := 0) (v := ?vN0) rfl (by kernel_rfl) (by kernel_rfl) (by kernel_rfl) (fun _ _ _ h => h) (Or.inl ⟨by rfl, ?yN0⟩) hHeld ?rN0
  case yN0 => (intro W hSw; simp only [List.getElem_toArray, List.getElem_cons_zero]; go_simp; try (with_reducible rfl))
  simp only [List.getElem_toArray, List.getElem_cons_zero, Act.put, List.setIfInBounds_toArray, List.set_cons_zero, List.set_cons_succ]
  refine wpAnyH_take (i := 1) (v := ?vN1) rfl (by kernel_rfl) (by kernel_rfl) (by kernel_rfl) (fun _ _ _ h => h) (Or.inl ⟨by rfl, ?yN1⟩) hHeld ?rN1
  case yN1 => (intro W hSw; simp only [List.getElem_toArray, List.getElem_cons_succ, List.getElem_cons_zero]; go_simp; try (with_reducible rfl))
  simp only [List.getElem_toArray, List.getElem_cons_succ, List.getElem_cons_zero, Act.put, List.setIfInBounds_toArray, List.set_cons_zero, List.set_cons_succ]
  refine wpAnyH_take (i := 2) (v := ?vN2) rfl (by kernel_rfl) (by kernel_rfl) (by kernel_rfl) (fun _ _ _ h => h) (Or.inl ⟨by rfl, ?yN2⟩) hHeld ?rN2
  case yN2 => (intro W hSw; simp only [List.getElem_toArray, List.getElem_cons_succ, List.getElem_cons_zero]; go_simp; try (with_reducible rfl))
  simp only [List.getElem_toArray, List.getElem_cons_succ, List.getElem_cons_zero, Act.put, List.setIfInBounds_toArray, List.set_cons_zero, List.set_cons_succ]
  refine wpAnyH_take (i := 3) (v := ?vN3) rfl (by kernel_rfl) (by kernel_rfl) (by kernel_rfl) (fun _ _ _ h => h) (Or.inl ⟨by rfl, ?yN3⟩) hHeld ?rN3
  case yN3 => (intro W hSw; simp only [List.getElem_toArray, List.getElem_cons_succ, List.getElem_cons_zero]; go_simp; try (with_reducible rfl))
  simp only [List.getElem_toArray, List.getElem_cons_succ, List.getElem_cons_zero, Act.put, List.setIfInBounds_toArray, List.set_cons_zero, List.set_cons_succ]
  refine wpAnyH_take (i := 4) (v := ?vN4) rfl (by kernel_rfl) (by kernel_rfl) (by kernel_rfl) (fun _ _ _ h => h) (Or.inl ⟨by rfl, ?yN4⟩) hHeld ?rN4
  case yN4 => (intro W hSw; simp only [List.getElem_toArray, List.getElem_cons_succ, List.getElem_cons_zero]; go_simp; try (with_reducible rfl))
  simp only [List.getElem_toArray, List.getElem_cons_succ, List.getElem_cons_zero, Act.put, List.setIfInBounds_toArray, List.set_cons_zero, List.set_cons_succ]
  refine wpAnyH_take (i := 5) (v := ?vN5) rfl (by kernel_rfl) (by kernel_rfl) (by kernel_rfl) (fun _ _ _ h => h) (Or.inl ⟨by rfl, ?yN5⟩) hHeld ?rN5
  case yN5 => (intro W hSw; simp only [List.getElem_toArray, List.getElem_cons_succ, List.getElem_cons_zero]; go_simp; try (with_reducible rfl))
  simp only [List.getElem_toArray, List.getElem_cons_succ, List.getElem_cons_zero, Act.put, List.setIfInBounds_toArray, List.set_cons_zero, List.set_cons_succ]
  refine wpAnyH_take (i := 6) (v := ?vN6) rfl (by kernel_rfl) (by kernel_rfl) (by kernel_rfl) (fun _ _ _ h => h) (Or.inl ⟨by rfl, ?yN6⟩) hHeld ?rN6
  case yN6 => (intro W hSw; simp only [List.getElem_toArray, List.getElem_cons_succ, List.getElem_cons_zero]; go_simp; try (with_reducible rfl))
  simp only [List.getElem_toArray, List.getElem_cons_succ, List.getElem_cons_zero, Act.put, List.setIfInBounds_toArray, List.set_cons_zero, List.set_cons_succ]
  refine wpAnyH_take (i := 7) (v := ?vN7) rfl (by kernel_rfl) (by kernel_rfl) (by kernel_rfl) (fun _ _ _ h => h) (Or.inl ⟨by rfl, ?yN7⟩) hHeld ?rN7
  case yN7 => (intro W hSw; simp only [List.getElem_toArray, List.getElem_cons_succ, List.getElem_cons_zero]; go_simp; try (with_reducible rfl))
  simp only [List.getElem_toArray, List.getElem_cons_succ, List.getElem_cons_zero, Act.put, List.setIfInBounds_toArray, List.set_cons_zero, List.set_cons_succ]
  refine wpAnyH_take (i := 8) (v := ?vN8) rfl (by kernel_rfl) (by kernel_rfl) (by kernel_rfl) (fun _ _ _ h => h) (Or.inl ⟨by rfl, ?yN8⟩) hHeld ?rN8
  case yN8 => (intro W hSw; simp only [List.getElem_toArray, List.getElem_cons_succ, List.getElem_cons_zero]; go_simp; try (with_reducible rfl))
  simp only [List.getElem_toArray, List.getElem_cons_succ, List.getElem_cons_zero, Act.put, List.setIfInBounds_toArray, List.set_cons_zero, List.set_cons_succ]
  refine wpAnyH_take (i := 9) (v := ?vN9) rfl (by kernel_rfl) (by kernel_rfl) (by kernel_rfl) (fun _ _ _ h => h) (Or.inl ⟨by rfl, ?yN9⟩) hHeld ?rN9
  case yN9 => (intro W hSw; simp only [List.getElem_toArray, List.getElem_cons_succ, List.getElem_cons_zero]; go_simp; try (with_reducible rfl))
  simp only [List.getElem_toArray, List.getElem_cons_succ, List.getElem_cons_zero, Act.put, List.setIfInBounds_toArray, List.set_cons_zero, List.set_cons_succ]
  refine wpAnyH_ready (rs := [10]) (by kernel_rfl) (by simp) (AllReadyH.cons rfl (fun K hK => ?_) AllReadyH.nil)
  simp only [List.getElem_toArray, List.getElem_cons_succ, List.getElem_cons_zero]
  go_simp
  (go_at_call 15; refine (CL.out _ hHeld.2.2.2.2).mono ?_; rintro e wA ⟨rfl, hb1⟩)
  try go_wp2_with fail
  refine hK.out _ _ (by exact ⟨(World.cell?_of_block (hb1.block x (by have := World.block_lt_of_cell? _ _ hHeld.1; exact this))).trans hHeld.1, (World.cell?_of_block (hb1.block x (by have := World.block_lt_of_cell? _ _ hHeld.1; exact this))).trans hHeld.2.1, (World.cell?_of_block (hb1.block x (by have := World.block_lt_of_cell? _ _ hHeld.1; exact this))).trans hHeld.2.2.1, fun i hi => (World.cell?_of_block (hb1.block m2 (by have := World.block_lt_of_cell? _ _ (hHeld.2.2.2.1 i hi); exact this))).trans (hHeld.2.2.2.1 i hi), hHeld.2.2.2.2.trans (hb1.mono hHeld.2.2.2.2.size)⟩) (fun hHeld1 => ?_)
  clear hK K hHeld
  have hHeld := hHeld1; clear hHeld1
  try simp only [List.getElem_toArray, List.getElem_cons_succ, List.getElem_cons_zero, Act.put, List.setIfInBounds_toArray, List.set_cons_zero, List.set_cons_succ]
  refine wpAnyH_take (i := 11) (v := ?vN11) rfl (by kernel_rfl) (by kernel_rfl) (by kernel_rfl) (fun _ _ _ h => h) (Or.inl ⟨by rfl, ?yN11⟩) hHeld ?rN11
  case yN11 => (intro W hSw; simp only [List.getElem_toArray, List.getElem_cons_succ, List.getElem_cons_zero]; go_simp; try (with_reducible rfl))
  simp only [List.getElem_toArray, List.getElem_cons_succ, List.getElem_cons_zero, Act.put, List.setIfInBounds_toArray, List.set_cons_zero, List.set_cons_succ]
  refine wpAnyH_take (i := 12) (v := ?vN12) rfl (by kernel_rfl) (by kernel_rfl) (by kernel_rfl) (fun _ _ _ h => h) (Or.inl ⟨by rfl, ?yN12⟩) hHeld ?rN12
  case yN12 => (intro W hSw; simp only [List.getElem_toArray, List.getElem_cons_succ, List.getElem_cons_zero]; go_simp; try (with_reducible rfl))
  simp only [List.getElem_toArray, List.getElem_cons_succ, List.getElem_cons_zero, Act.put, List.setIfInBounds_toArray, List.set_cons_zero, List.set_cons_succ]
  refine wpAnyH_done (by kernel_rfl) ?_ _
  have HH := Lib.hid hHeld
  clear hHeld
  go_wp2_with fail
  go_loopw [7] (fun vi wr => AmR N wA vi wr) (fun vi _ => N - (intOf vi).toNat)
  case atStart => exact ⟨0, rfl, Nat.zero_le _, rfl⟩
  case round =>
    obtain ⟨j, rfl, hj, rfl⟩ := hrel
    have x3 := HH.out.2.2.1
    by_cases hlt : j < N
    · have hlz : (j : Int) < (N : Int) := by omega
      have hj0 : (0 : Int) ≤ (j : Int) := by omega
      have mj := HH.out.2.2.2.1 j hlt
      go_wp2_with fail
      go_roundw
      case rel => exact ⟨j + 1, by go_num, by omega, rfl⟩
      case measure => simp [intOf]; omega
    · have hlz : ¬ (j : Int) < (N : Int) := by omega
      go_wp2_with fail
      go_ret
      exact ⟨rfl, HH.out.2.2.2.2⟩

end Go.Proofs.YtobkgamcjfjghaaGreat.Rt
