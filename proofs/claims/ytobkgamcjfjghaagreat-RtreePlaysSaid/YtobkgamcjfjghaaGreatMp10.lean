/-
  Contracts of package rsplit: a sum with one more, and the lesser one of two costs. Memory that was there is left as it was.
-/
import Derived.Test.YtobkgamcjfjghaaGreatMp03
import Derived.Test.YtobkgamcjfjghaaGreatMp07
import Derived.Test.YtobkgamcjfjghaaGreatMp09
import Derived.Laws.Externs
import Derived.Deep.RegionHeld3
/-
  Contract of part.split: a node's kids are parted, so many at least in each part; the new node has the second part. What was there and is no part of it is left as it was.
-/
namespace Go.Proofs.YtobkgamcjfjghaaGreat.Rt
open Go.RowKit Go.Proofs.YtobkgamcjfjghaaGreat.Pt Go.Proofs.YtobkgamcjfjghaaGreat.Rc Go.Proofs.YtobkgamcjfjghaaGreat.Rs Go.Proofs.YtobkgamcjfjghaaGreat.So
set_option linter.unusedVariables false
set_option linter.unusedSimpArgs false
set_option maxHeartbeats 4000000
set_option maxRecDepth 100000
theorem pickL_range (ks : List Nat) : pickL ks (List.range ks.length) = ks := by
  unfold pickL
  apply List.ext_getElem
  · simp
  · intro i h1 h2
    rw [List.getElem_map, List.getElem_range, List.getD_eq_getElem?_getD, List.getElem?_eq_getElem h2, Option.getD_some]
theorem pickL_app (ks ps qs : List Nat) : pickL ks (ps ++ qs) = pickL ks ps ++ pickL ks qs := by unfold pickL; rw [List.map_append]
/-- Both parts' places, as numbers. -/
theorem two_places {W : World} {n ga gb : Nat} {xs ys : List Int} {d : Array Int} (hs : d.size = n) (hp : Sort.PermIn 0 n (idA n) d) (he : xs ++ ys = d.toList) (ha : HI W ga 0 xs.toArray) (hb : HI W gb 0 ys.toArray) (la : ga < W.heap.size) (lb : gb < W.heap.size) :
    ∃ ps pl : List Nat, (ps ++ pl).Perm (List.range n) ∧ ps.length = xs.length ∧ pl.length = ys.length ∧ Pls W W.heap.size ga 0 ps ∧ Pls W W.heap.size gb 0 pl := by
  obtain ⟨ds, hdp, hdv⟩ := places_nat hs hp
  have hl : xs.length + ys.length = n := by rw [← List.length_append, he, Array.length_toList, hs]
  have hdl : ds.length = n := by rw [hdp.length_eq, List.length_range]
  have at_ : ∀ t (h : t < n), (xs ++ ys)[t]? = some ((ds[t]'(by omega) : Nat) : Int) := fun t h => by
    have := hdv t (by omega)
    rw [getElem!_pos d t (by omega)] at this
    rw [he, Array.getElem?_toList, Array.getElem?_eq_getElem (by omega), this]
  refine ⟨ds.take xs.length, ds.drop xs.length, by rw [List.take_append_drop]; exact hdp, by rw [List.length_take]; omega, by rw [List.length_drop]; omega, ⟨la, fun i hi => ?_⟩, lb, fun i hi => ?_⟩
  · rw [List.length_take] at hi
    rw [(ha i (by simp; omega)).1]
    have := at_ i (by omega)
    rw [List.getElem?_append_left (by omega), List.getElem?_eq_getElem (by omega)] at this
    rw [getElem!_pos _ i (by simp; omega)]
    simp only [List.getElem_toArray, List.getElem_take, Option.some.injEq] at this ⊢
    rw [this]
  · rw [List.length_drop] at hi
    rw [(hb i (by simp; omega)).1]
    have := at_ (xs.length + i) (by omega)
    rw [List.getElem?_append_right (by omega), Nat.add_sub_cancel_left, List.getElem?_eq_getElem (by omega)] at this
    rw [getElem!_pos _ i (by simp; omega)]
    simp only [List.getElem_toArray, List.getElem_drop, Option.some.injEq] at this ⊢
    rw [this]
/-- What split tells: the new node o; S stay, L leave. -/
def SplE (n mi : Nat) (d : Pd) (σ : St) (V : Nat → Value) (w : World) (e : Ending) (w' : World) : Prop :=
  ∃ (o : Nat) (S L : List Nat) (s1 s2 : Value), e = .returned (ptr o) ∧ w.heap.size ≤ o ∧ σ o = none ∧ (S ++ L).Perm d.kids ∧ mi ≤ S.length ∧ mi ≤ L.length ∧ (∀ k, s1.ownBlock = some k → w.heap.size ≤ k) ∧ (∀ k, s2.ownBlock = some k → w.heap.size ≤ k) ∧
    Mem w' (upd (upd σ o ⟨d.lvl, hull σ L, 0, L⟩) n { d with r := hull σ S, kids := S }) (updV (updV V o s1) n s2) ∧ Ke (fun k => k = n) w w'
theorem psplit_any (n mi : Nat) (d : Pd) (σ : St) (V : Nat → Value) (w : World) (hM : Mem w σ V) (hd : σ n = some d) (hk : ∀ k ∈ d.kids, k ≠ n ∧ ∃ e, σ k = some e ∧ may4 e.r) (hn : d.kids.length < 20) (h1 : 1 ≤ mi) (hm : 2 * mi ≤ d.kids.length) :
    Calls Tryz.prog 56 #[ptr n, .int .i64 (mi : Int)] w (SplE n mi d σ V w) := by
  have HM := Lib.hid hM
  have HD := Lib.hid hd
  have HK := Lib.hid hk
  have C1 := Lib.hid (rects_any n d σ V w hM hd (fun k hk' => (hk k hk').2) (by omega))
  obtain ⟨N, eN⟩ : ∃ N, N = d.kids.length := ⟨_, rfl⟩
  have EN := Lib.hid eN
  obtain ⟨rs, ers⟩ : ∃ rs, rs = d.kids.map (rOf σ) := ⟨_, rfl⟩
  have hrl : rs.length = N := by rw [ers, List.length_map, eN]
  rw [← ers, ← eN] at C1
  have C2 : Hid (∀ g W, RsAt W W.heap.size (some ⟨g, 0, none⟩) rs → Calls Tryz.prog 65 #[.slice (some ⟨g, 0, none⟩) N N, .int .i64 (mi : Int)] W (SpE W N mi)) := Lib.hid fun g W h => by
    have := split_any (some ⟨g, 0, none⟩) N mi rs W h (by rw [hrl, eN]; exact hn) h1 (by rw [hrl, eN]; exact hm)
    rw [hrl] at this
    exact this
  have HNN := Lib.hid (show N < 20 by rw [eN]; exact hn)
  have HM1 := Lib.hid h1
  unfold ptr at C1 ⊢
  clear hM hd hk eN ers hrl hn h1 hm
  have AP3 : ∀ g W, Below w.heap.size w W → W.heap.size ≤ g → ∀ c e g', σ c = some e → (V c).ownBlock = some g' → ∀ m, (Value.slice (some ⟨g, 0, none⟩) m m).ownBlock ≠ some g' := fun g W hB hg c e g' hc hV m e2 => by
    have := HM.out.foot_lt (Or.inr ⟨c, e, hc, hV⟩)
    simp [Value.ownBlock] at e2
    have := hB.size
    omega
  have AP3 := Lib.hid AP3
  go_enter Tryz.func56, Tryz.ntmps56
  go_wp2_with fail
  refine (C1.out).mono ?_
  rintro e w1 ⟨g1, rfl, hrs, hb1⟩
  have B1 := Lib.hid hb1
  have HRS := Lib.hid hrs
  clear hb1 hrs
  go_wp2_with fail
  refine (C2.out g1 _ HRS.out).mono ?_
  rintro e w2 ⟨ga, ca, gb, cb, xs, ys, dd, rfl, hga, hga2, hgb, hgb2, hHa, hHb, hx, hy, hds, hperm, hxy, hb2⟩
  have B2 := Lib.hid (B1.out.trans (hb2.mono B1.out.size))
  obtain ⟨ps, pl, hpp, hps, hpl, hPs, hPl⟩ := two_places hds hperm hxy hHa hHb hga2 hgb2
  rw [← hps] at hx ⊢
  rw [← hpl] at hy ⊢
  have hpk : ∀ p ∈ ps ++ pl, p < d.kids.length := fun p hp => by
    have := List.mem_range.1 (hpp.subset hp)
    have := EN.out
    omega
  have hlen : ps.length + pl.length = N := by rw [← List.length_append, hpp.length_eq, List.length_range]
  obtain ⟨L, eL⟩ : ∃ L, L = pickL d.kids pl := ⟨_, rfl⟩
  obtain ⟨T, eT⟩ : ∃ T, T = pickL d.kids ps := ⟨_, rfl⟩
  have LL := Lib.hid (show L.length = pl.length by rw [eL]; unfold pickL; rw [List.length_map])
  have LT := Lib.hid (show T.length = ps.length by rw [eT]; unfold pickL; rw [List.length_map])
  have HP := Lib.hid (show (T ++ L).Perm d.kids by
    rw [eT, eL, ← pickL_app]
    refine (hpp.map _).trans ?_
    rw [EN.out]
    exact List.Perm.of_eq (pickL_range d.kids))
  have HL := Lib.hid (show ∀ k ∈ L, ∃ e, σ k = some e from fun k hk => by
    obtain ⟨-, e, he, -⟩ := HK.out k (HP.out.subset (List.mem_append_right _ hk))
    exact ⟨e, he⟩)
  have HT := Lib.hid (show ∀ k ∈ T, k ≠ n ∧ ∃ e, σ k = some e from fun k hk => by
    obtain ⟨h, e, he, -⟩ := HK.out k (HP.out.subset (List.mem_append_left _ hk))
    exact ⟨h, e, he⟩)
  have PL20 := Lib.hid (show pl.length ≤ 20 by have := HNN.out; omega)
  have PS20 := Lib.hid (show ps.length ≤ 20 by have := HNN.out; omega)
  have PS1 := Lib.hid (show mi ≤ ps.length ∧ mi ≤ pl.length from ⟨hx, hy⟩)
  have HPK := Lib.hid hpk
  have HPS := Lib.hid hPs
  have HPL := Lib.hid hPl
  have C3 := Lib.hid (pick_any n d σ V gb 0 cb pl w2.drew (HM.out.later B2.out.drew) HD.out ⟨hgb2, fun i hi => hPl.2 i hi⟩ (by have := HM1.out; omega) (fun p hp => hpk p (List.mem_append_right _ hp)) PL20.out)
  rw [← eL] at C3
  have z0 := (HM.out.part n d HD.out).cells.1
  have HS0 : Hid ((fun W => W.cell? ⟨n, 0, none⟩ = some (.int .i64 d.lvl) ∧ w.heap.size ≤ W.heap.size ∧ Below w.heap.size w W) w2.drew) := Lib.hid ⟨cell_later B2.out.drew z0, B2.out.size, B2.out.drew⟩
  clear hb2 hga hga2 hgb hgb2 hHa hHb hds hperm hxy hps hpl hPs hPl hpk hpp hx hy eL z0
  go_wp2_with fail
  refine wp_region_held_drew (S := (fun W => W.cell? ⟨n, 0, none⟩ = some (.int .i64 d.lvl) ∧ w.heap.size ≤ W.heap.size ∧ Below w.heap.size w W)) (by kernel_rfl) (by exact HS0.out) (fun hHeld => ?_)
  refine wpAnyH_take (i := 0) (v := ?v0) rfl (by kernel_rfl) (by kernel_rfl) (by kernel_rfl) (fun _ _ _ h => h) (Or.inl ⟨by rfl, ?y0⟩) hHeld ?r0
  case y0 => (intro W hSw; simp only [List.getElem_toArray, List.getElem_cons_zero]; go_simp; try (with_reducible rfl))
  simp only [List.getElem_toArray, List.getElem_cons_zero, Act.put, List.setIfInBounds_toArray, List.set_cons_zero, List.set_cons_succ]
  refine wpAnyH_take (i := 1) (v := ?v1) rfl (by kernel_rfl) (by kernel_rfl) (by kernel_rfl) (fun _ _ _ h => h) (Or.inl ⟨by rfl, ?y1⟩) hHeld ?r1
  case y1 => (intro W hSw; simp only [List.getElem_toArray, List.getElem_cons_succ, List.getElem_cons_zero]; go_simp; try (with_reducible rfl))
  simp only [List.getElem_toArray, List.getElem_cons_succ, List.getElem_cons_zero, Act.put, List.setIfInBounds_toArray, List.set_cons_zero, List.set_cons_succ]
  refine wpAnyH_take (i := 2) (v := ?v2) rfl (by kernel_rfl) (by kernel_rfl) (by kernel_rfl) (fun _ _ _ h => h) (Or.inl ⟨by rfl, ?y2⟩) hHeld ?r2
  case y2 => (intro W hSw; simp only [List.getElem_toArray, List.getElem_cons_succ, List.getElem_cons_zero]; go_simp; try (with_reducible rfl))
  simp only [List.getElem_toArray, List.getElem_cons_succ, List.getElem_cons_zero, Act.put, List.setIfInBounds_toArray, List.set_cons_zero, List.set_cons_succ]
  refine wpAnyH_take (i := 3) (v := ?v3) rfl (by kernel_rfl) (by kernel_rfl) (by kernel_rfl) (fun _ _ _ h => h) (Or.inl ⟨by rfl, ?y3⟩) hHeld ?r3
  case y3 => (intro W hSw; simp only [List.getElem_toArray, List.getElem_cons_succ, List.getElem_cons_zero]; go_simp; try (with_reducible rfl))
  simp only [List.getElem_toArray, List.getElem_cons_succ, List.getElem_cons_zero, Act.put, List.setIfInBounds_toArray, List.set_cons_zero, List.set_cons_succ]
  refine wpAnyH_take (i := 4) (v := ?v4) rfl (by kernel_rfl) (by kernel_rfl) (by kernel_rfl) (fun _ _ _ h => h) (Or.inl ⟨by rfl, ?y4⟩) hHeld ?r4
  case y4 => (intro W hSw; simp only [List.getElem_toArray, List.getElem_cons_succ, List.getElem_cons_zero]; go_simp; try (with_reducible rfl))
  simp only [List.getElem_toArray, List.getElem_cons_succ, List.getElem_cons_zero, Act.put, List.setIfInBounds_toArray, List.set_cons_zero, List.set_cons_succ]
  refine wpAnyH_take (i := 5) (v := ?v5) rfl (by kernel_rfl) (by kernel_rfl) (by kernel_rfl) (fun _ _ _ h => h) (Or.inl ⟨by rfl, ?y5⟩) hHeld ?r5
  case y5 => (intro W hSw; simp only [List.getElem_toArray, List.getElem_cons_succ, List.getElem_cons_zero]; go_simp; try (with_reducible rfl))
  simp only [List.getElem_toArray, List.getElem_cons_succ, List.getElem_cons_zero, Act.put, List.setIfInBounds_toArray, List.set_cons_zero, List.set_cons_succ]
  refine wpAnyH_ready (rs := [6]) (by kernel_rfl) (by simp) (AllReadyH.cons rfl (fun K hK => ?_) AllReadyH.nil)
  simp only [List.getElem_toArray, List.getElem_cons_succ, List.getElem_cons_zero]
  go_simp
  (go_at_call 67; unfold ptr at C3; refine (C3.out).mono ?_; rintro e w3 ⟨g3, rfl, hg3, hown3, hb1⟩; have B3 := Lib.hid (B2.out.drew.trans (hb1.mono B2.out.size)); have T3 := Lib.hid (show Below w2.heap.size w2 w3 from (Below.refl w2.heap.size w2).drew.trans hb1); have O3 := Lib.hid hown3; have G3 := Lib.hid (show w2.heap.size ≤ g3 from hg3); clear hg3 hown3)
  try go_wp2_with fail
  refine hK.out _ _ ((Kp.one hb1 (Kp.ends hb1)) hHeld) (fun hHeld1 => ?_)
  clear hK K hHeld
  have hHeld := hHeld1; clear hHeld1
  try simp only [List.getElem_toArray, List.getElem_cons_succ, List.getElem_cons_zero, Act.put, List.setIfInBounds_toArray, List.set_cons_zero, List.set_cons_succ]
  refine wpAnyH_ready (rs := [7]) (by kernel_rfl) (by simp) (AllReadyH.cons rfl (fun K hK => ?_) AllReadyH.nil)
  simp only [List.getElem_toArray, List.getElem_cons_succ, List.getElem_cons_zero]
  go_simp
  (go_at_call 22; refine (newNode_any d.lvl (.slice (some ⟨g3, 0, none⟩) pl.length pl.length) L σ V w3 (HM.out.later B3.out) (by rw [LL.out]; exact O3.out) (fun c e g2 hc hV => AP3.out g3 w2 B2.out G3.out c e g2 hc hV _) HL.out (by rw [LL.out]; exact PL20.out)).mono ?_; rintro e w4 ⟨o, rfl, ho, hon, hM4, hb1⟩; have B4 := Lib.hid (B3.out.trans (hb1.mono B3.out.size)); have T4 := Lib.hid (T3.out.trans (hb1.mono T3.out.size)); have M4 := Lib.hid hM4; have HO := Lib.hid (And.intro (Nat.le_trans B3.out.size ho) hon); clear ho hon hM4; unfold ptr)
  try go_wp2_with fail
  refine hK.out _ _ ((Kp.one hb1 (Kp.ends hb1)) hHeld) (fun hHeld1 => ?_)
  clear hK K hHeld
  have hHeld := hHeld1; clear hHeld1
  try simp only [List.getElem_toArray, List.getElem_cons_succ, List.getElem_cons_zero, Act.put, List.setIfInBounds_toArray, List.set_cons_zero, List.set_cons_succ]
  refine wpAnyH_take (i := 8) (v := ?v8) rfl (by kernel_rfl) (by kernel_rfl) (by kernel_rfl) (fun _ _ _ h => h) (Or.inl ⟨by rfl, ?y8⟩) hHeld ?r8
  case y8 => (intro W hSw; simp only [List.getElem_toArray, List.getElem_cons_succ, List.getElem_cons_zero]; go_simp; try (with_reducible rfl))
  simp only [List.getElem_toArray, List.getElem_cons_succ, List.getElem_cons_zero, Act.put, List.setIfInBounds_toArray, List.set_cons_zero, List.set_cons_succ]
  refine wpAnyH_done (by kernel_rfl) ?_ _
  have HW := Lib.hid (show w.heap.size ≤ o ∧ σ o = none from HO.out)
  have hno : n ≠ o := fun e => by have := HO.out.2; rw [← e, HD.out] at this; cases this
  have HNO := Lib.hid hno
  have HD4 := Lib.hid (show (upd σ o ⟨d.lvl, hull σ L, 0, L⟩) n = some d by rw [upd_other _ _ hno]; exact HD.out)
  have C5 := Lib.hid (pick_any n d _ _ ga 0 ca ps w4 M4.out HD4.out ⟨Nat.lt_of_lt_of_le HPS.out.1 T4.out.size, fun i hi => (T4.out.cell (p := ⟨ga, 0 + i, none⟩) HPS.out.1).trans (HPS.out.2 i hi)⟩ (by have := HM1.out; have := PS1.out; omega) (fun p hp => HPK.out p (List.mem_append_left _ hp)) PS20.out)
  rw [← eT] at C5
  unfold ptr at C5
  clear hno eT HPK HPS HPL AP3 C1 C2
  go_wp2_with fail
  refine (C5.out).mono ?_
  rintro e w5 ⟨g5, rfl, hg5, hown5, hb5⟩
  have M5 := Lib.hid (M4.out.later hb5)
  have P5 := Lib.hid (M5.out.part n d HD4.out)
  have B5 := Lib.hid (B4.out.trans (hb5.mono B4.out.size))
  have O5 := Lib.hid hown5
  have G5 := Lib.hid hg5
  obtain ⟨s, es⟩ : ∃ s, s = Value.slice (some ⟨g5, 0, none⟩) ps.length ps.length := ⟨_, rfl⟩
  have ES := Lib.hid es
  have ht : s.ownBlock ≠ some n := by
    rw [es]
    simp [Value.ownBlock]
    have := (M4.out.part n d HD4.out).lt
    have := G5.out
    omega
  have P6 := Lib.hid (P5.out.setK (t := s) (ks := T) ht (by rw [es, LT.out]; exact hown5))
  have K5 := Lib.hid ((Ke.refl (fun k => k = n) w5).set n 6 s (Or.inl rfl))
  have AP := Lib.hid (show ∀ c e g, (upd σ o ⟨d.lvl, hull σ L, 0, L⟩) c = some e → c ≠ n → (updV V o (.slice (some ⟨g3, 0, none⟩) pl.length pl.length) c).ownBlock = some g → s.ownBlock ≠ some g from fun c e g hc _ hV e2 => by
    have h1 := M4.out.foot_lt (Or.inr ⟨c, e, hc, hV⟩)
    rw [es] at e2
    simp [Value.ownBlock] at e2
    have := G5.out
    omega)
  have M6 := Lib.hid (M5.out.put HD4.out P6.out (K5.out.mono (fun g _ h => Or.inl h)) AP.out)
  have HTO := Lib.hid (show ∀ k ∈ T, k ≠ o from fun k hk e => by
    obtain ⟨-, x, hx⟩ := HT.out k hk
    rw [e, HO.out.2] at hx
    cases hx)
  have CF := Lib.hid (fit_any n { d with kids := T } _ _ _ M6.out (upd_same _ _ _) (fun k hk' => ⟨(HT.out k hk').1, by rw [upd_other _ _ (HT.out k hk').1, upd_other _ _ (HTO.out k hk')]; exact (HT.out k hk').2⟩) (by dsimp only; rw [LT.out]; exact PS20.out))
  rw [updV_same, hull_upd (fun k hk' => (HT.out k hk').1), hull_upd (fun k hk' => HTO.out k hk')] at CF
  obtain ⟨z0, z1, z2, z3, z4, z5, z6⟩ := P5.out.cells
  have zf := P5.out.soft
  rw [es] at CF
  unfold ptr at CF
  clear hg5 hown5 hb5 es ht z0 z1 z2 z3 z4 z5 hHeld
  go_wp2_with fail
  refine (CF.out).mono ?_
  rintro e w7 ⟨rfl, hP7, hK7⟩
  rw [← ES.out] at hP7 hK7
  have P7 := Lib.hid hP7
  have K7 := Lib.hid (K5.out.trans hK7 (fun g _ h => h))
  clear hP7 hK7 z6 zf CF
  go_wp2_with fail
  go_ret
  refine ⟨o, T, L, .slice (some ⟨g3, 0, none⟩) pl.length pl.length, s, rfl, HO.out.1, HO.out.2, HP.out, by rw [LT.out]; exact PS1.out.1, by rw [LL.out]; exact PS1.out.2, fun k hk => ?_, fun k hk => ?_, M5.out.put HD4.out P7.out (K7.out.mono (fun g _ h => Or.inl h)) AP.out, (Ke.of_below (X := fun k => k = n) B5.out).trans K7.out (fun g _ h => h)⟩
  · simp [Value.ownBlock] at hk
    have := G3.out
    have := B2.out.size
    omega
  · rw [ES.out] at hk
    simp [Value.ownBlock] at hk
    have := G5.out
    have := B4.out.size
    omega
end Go.Proofs.YtobkgamcjfjghaaGreat.Rt
/-
  Contract of loseFarthest of an R*-tree's part.
-/
namespace Go.Proofs.YtobkgamcjfjghaaGreat.Rt
open Go.RowKit Go.Proofs.YtobkgamcjfjghaaGreat.Pt Go.Proofs.YtobkgamcjfjghaaGreat.Rc Go.Proofs.YtobkgamcjfjghaaGreat.Rs
set_option linter.unusedVariables false
set_option linter.unusedSimpArgs false
set_option maxRecDepth 100000

/-- What loseFarthest tells: some kids F, in a new row; the others stay. -/
def ShE (n m : Nat) (d : Pd) (σ : St) (V : Nat → Value) (w : World) (e : Ending) (w' : World) : Prop :=
  ∃ (F : List Nat) (g : Nat) (s : Value), F.length = m ∧ F.Nodup ∧ (∀ k ∈ F, k ∈ d.kids) ∧ e = .returned (.slice (some ⟨g, 0, none⟩) m m) ∧ w.heap.size ≤ g ∧ w'.ownsRow 0 61 1 (.slice (some ⟨g, 0, none⟩) m m) m (F.map ptr) ∧
    s.ownBlock = (V n).ownBlock ∧ Mem w' (fitK σ n d (d.kids.filter fun k => !(F.contains k))) (updV V n s) ∧ Ke (fun k => k = n ∨ (V n).ownBlock = some k) w w'
set_option maxHeartbeats 4000000 in
theorem shed_any (n m : Nat) (d : Pd) (σ : St) (V : Nat → Value) (w : World) (hM : Mem w σ V) (hd : σ n = some d) (hk : ∀ k ∈ d.kids, k ≠ n ∧ ∃ e, σ k = some e ∧ may4 e.r) (hn : d.kids.length < 20) (h1 : 1 ≤ m) (hm : m ≤ d.kids.length) (hdup : d.kids.Nodup) :
    Calls Tryz.prog 57 #[ptr n, .int .i64 (m : Int)] w (ShE n m d σ V w) := by
  have HM := Lib.hid hM
  have HD := Lib.hid hd
  have HK := Lib.hid hk
  have HT := Lib.hid (hM.tags hd hd)
  obtain ⟨A0, c, hsv, hc1, hc2, hrow⟩ := (hM.part n d hd).kids
  have HSV := Lib.hid hsv
  have C1 := Lib.hid (rects_any n d σ V w hM hd (fun k hk' => (hk k hk').2) (by omega))
  obtain ⟨N, eN⟩ : ∃ N, N = d.kids.length := ⟨_, rfl⟩
  have EN := Lib.hid eN
  obtain ⟨rs, ers⟩ : ∃ rs, rs = d.kids.map (rOf σ) := ⟨_, rfl⟩
  have hrl : rs.length = N := by rw [ers, List.length_map, eN]
  rw [← ers, ← eN] at C1
  have C2 : Hid (∀ g W, RsAt W W.heap.size (some ⟨g, 0, none⟩) rs → Calls Tryz.prog 68 #[.slice (some ⟨g, 0, none⟩) N N, .int .i64 (m : Int)] W (FarE W N m)) := Lib.hid fun g W h => by
    have := farthest_any (some ⟨g, 0, none⟩) N m rs W h (by rw [hrl, eN]; exact hn) h1 (by rw [hrl, eN]; exact hm)
    rw [hrl] at this
    exact this
  have HDUP := Lib.hid hdup
  have HNN := Lib.hid hn
  have HM1 := Lib.hid h1
  have HMM := Lib.hid hm
  unfold ptr at C1 ⊢
  clear hM hd hk hsv hc1 hc2 hrow eN ers hrl hdup hn h1 hm
  go_enter Tryz.func57, Tryz.ntmps57
  go_wp2_with fail
  refine (C1.out).mono ?_
  rintro e w1 ⟨g1, rfl, hrs, hb1⟩
  have B1 := Lib.hid hb1
  have HRS := Lib.hid hrs
  clear hb1 hrs
  go_wp2_with fail
  refine (C2.out g1 _ HRS.out).mono ?_
  rintro e w2 ⟨g2, dd, rfl, hg2, hg2', hHI, hds, hperm, hb2⟩
  have B2 := Lib.hid (B1.out.trans (hb2.mono B1.out.size))
  obtain ⟨ds, hdp, hdv⟩ := places_nat hds hperm
  obtain ⟨ps, eps⟩ : ∃ ps, ps = ds.drop (N - m) := ⟨_, rfl⟩
  have hdl : ds.length = N := by rw [hdp.length_eq, List.length_range]
  have hpl : ps.length = m := by rw [eps, List.length_drop, hdl]; have := HMM.out; have := EN.out; omega
  have hpn : ps.Nodup := by rw [eps]; exact ((hdp.nodup_iff).2 List.nodup_range).sublist (List.drop_sublist _ _)
  have hpk : ∀ p ∈ ps, p < d.kids.length := fun p hp => by
    rw [eps] at hp
    have := List.mem_range.1 (hdp.subset (List.mem_of_mem_drop hp))
    have := EN.out
    omega
  have hpls : Pls w2 w2.heap.size g2 (N - m) ps := ⟨hg2', fun i hi => by
    have h1 := (hHI (N - m + i) (by rw [hds]; have := HMM.out; have := EN.out; omega)).1
    rw [hdv (N - m + i) (by rw [hdl]; have := HMM.out; have := EN.out; omega)] at h1
    rw [Nat.zero_add] at h1
    rw [h1]
    subst eps
    simp⟩
  have C3 := Lib.hid (pick_any n d σ V g2 (N - m) m ps w2 (HM.out.later B2.out) HD.out hpls (by have := HM1.out; omega) hpk (by have := HNN.out; have := HMM.out; omega))
  obtain ⟨F, eF⟩ : ∃ F, F = pickL d.kids ps := ⟨_, rfl⟩
  have HFL := Lib.hid (show F.length = m by rw [eF]; unfold pickL; rw [List.length_map, hpl])
  have HFN := Lib.hid (show F.Nodup by rw [eF]; exact pick_nodup HDUP.out hpk hpn)
  have HFK := Lib.hid (show ∀ k ∈ F, k ∈ d.kids by rw [eF]; exact pick_mem hpk)
  rw [hpl, ← eF] at C3
  unfold ptr at C3
  clear hb2 hg2 hg2' hHI hds hperm hdp hdv eps hdl hpl hpn hpk hpls eF
  go_wp2_with fail
  refine (C3.out).mono ?_
  rintro e w3 ⟨g3, rfl, hg3, hown3, hb3⟩
  have B3 := Lib.hid (B2.out.trans (hb3.mono B2.out.size))
  have G3 := Lib.hid (show w.heap.size ≤ g3 from Nat.le_trans B2.out.size hg3)
  obtain ⟨h, hh⟩ : ∃ h, h = w3.heap.size := ⟨_, rfl⟩
  obtain ⟨v, hv⟩ : ∃ v, v = w3.alloc (.cells #[.slice (some ⟨g3, 0, none⟩) m m] 73) := ⟨_, rfl⟩
  have BV3 := Lib.hid (show Below w3.heap.size w3 v by rw [hv]; exact (Below.refl _ _).alloc (Nat.le_refl _) _)
  have BV := Lib.hid (B3.out.trans (BV3.out.mono B3.out.size))
  have VH := Lib.hid (show v.cell? ⟨h, 0, none⟩ = some (.slice (some ⟨g3, 0, none⟩) m m) by rw [hv, hh]; simp [go_sem])
  have HLT := Lib.hid (show h < v.heap.size by rw [hv, hh]; simp)
  have OV := Lib.hid (show v.ownsRow 0 61 1 (.slice (some ⟨g3, 0, none⟩) m m) m (F.map ptr) from hown3.kept (row := none) ⟨BV3.out.os, BV3.out.tape, BV3.out.output, BV3.out.size, fun k hk _ => BV3.out.block k hk⟩ (Or.inr (by simp [Value.ownBlock])))
  have G3V := Lib.hid (show g3 < v.heap.size from by
    rcases OV.out.2 with ⟨e, _⟩ | ⟨g', _, _, e, _, hh', _⟩
    · cases e
    · simp at e
      rw [e.1]
      exact (Array.getElem?_eq_some_iff.1 hh').1)
  have HW3 := Lib.hid (show w.heap.size ≤ h by rw [hh]; exact B3.out.size)
  have MV := Lib.hid (HM.out.later BV.out)
  have PV := Lib.hid (MV.out.part n d HD.out)
  have hob : ∀ W g', v.grownBy W (some g') → ∀ k, (∃ e, σ k = some e) → (Value.slice A0 d.kids.length c).ownBlock = some g' → Ob W k := fun W g' hW k hk' hg => by
    obtain ⟨e, he⟩ := hk'
    have hkg : k ≠ g' := fun e2 => HM.out.tags he HD.out (by rw [HSV.out, e2]; exact hg)
    exact ⟨_, _, (hW.block k (MV.out.part k e he).lt (fun e3 => hkg (Option.some.inj e3))).trans (MV.out.part k e he).obj⟩
  have CD := Lib.hid (delf_lf c h A0 d.kids (fun k => F.contains k) v (by have := PV.out.row; rw [HSV.out] at this; exact this) (Nat.le_of_lt HNN.out) (fun g hg W hW k hk' => by
    have hgl := HM.out.foot_lt (Or.inr ⟨n, d, HD.out, by rw [HSV.out]; exact hg⟩)
    have n1 : g ≠ h := fun e => by have := HW3.out; omega
    have n2 : g ≠ g3 := fun e => by have := G3.out; omega
    have hcell : W.cell? ⟨h, 0, none⟩ = some (.slice (some ⟨g3, 0, none⟩) F.length m) := by
      rw [HFL.out]
      exact (World.cell?_of_block (w := v) (w' := W) (a := ⟨h, 0, none⟩) (hW.block h HLT.out (fun e => n1 (Option.some.inj e).symm))).trans VH.out
    refine far1_any g3 0 m k h F W hcell (Nat.lt_of_lt_of_le G3V.out hW.size) (fun i hi => ?_) (by rw [HFL.out]; have := HMM.out; have := HNN.out; omega) (hob W g hW k ⟨_, (HK.out k hk').2.choose_spec.1⟩ hg) (fun k' hk2 => hob W g hW k' ⟨_, (HK.out k' (HFK.out k' hk2)).2.choose_spec.1⟩ hg)
    rw [Nat.zero_add]
    refine (World.cell?_of_block (w := v) (w' := W) (a := ⟨g3, i, none⟩) (hW.block g3 G3V.out (fun e => n2 (Option.some.inj e).symm))).trans ?_
    rw [OV.out.cellAt i (by rw [HFL.out] at hi; omega), List.getElem?_map, List.getElem?_eq_getElem hi]
    rfl))
  obtain ⟨ks, eks⟩ : ∃ ks, ks = d.kids.filter fun k => !(F.contains k) := ⟨_, rfl⟩
  rw [← eks] at CD
  have EKS := Lib.hid eks
  have HKS := Lib.hid (show ∀ k ∈ ks, k ≠ n ∧ ∃ e, σ k = some e from fun k hk' => by
    rw [eks] at hk'
    obtain ⟨h1, e, h2, _⟩ := HK.out k (List.mem_filter.1 hk').1
    exact ⟨h1, e, h2⟩)
  have HKL := Lib.hid (show ks.length ≤ 20 by rw [eks]; exact Nat.le_trans (List.length_filter_le _ _) (Nat.le_of_lt HNN.out))
  obtain ⟨z0, z1, z2, z3, z4, z5, z6⟩ := (HM.out.part n d HD.out).cells
  rw [HSV.out, ← EN.out] at z6
  have c6 := cell_later BV.out z6
  have c7 := cell_later (B3.out.trans ((show Below w3.heap.size w3 (w3.alloc (.cells #[.slice (some ⟨g3, 0, none⟩) m m] 73)) from (Below.refl _ _).alloc (Nat.le_refl _) _).mono B3.out.size)) z6
  have hvs : w3.alloc (.cells #[.slice (some ⟨g3, 0, none⟩) m m] 73) = v := hv.symm
  have HVS := Lib.hid hvs
  have HH := Lib.hid hh
  rw [← EN.out] at CD
  clear hg3 hown3 hb3 hv hob eks hvs z0 z1 z2 z3 z4 z5 z6
  go_wp2_with fail
  rw [HVS.out, ← hh]
  refine (CD.out).mono ?_
  rintro e w4 ⟨rfl, hrow, hgr⟩
  have HSV2 := Lib.hid (show V n = .slice A0 N c by rw [HSV.out, ← EN.out])
  have K0 := Lib.hid (show Ke (fun k => k = n ∨ (V n).ownBlock = some k) v w4 from (Ke.refl _ v).grown hgr (fun k hk => Or.inl (Or.inr (by rw [HSV2.out]; exact hk))))
  have K1 := Lib.hid (show Ke (fun k => k = n ∨ (V n).ownBlock = some k) w w4 from (Ke.of_below (X := fun k => k = n ∨ (V n).ownBlock = some k) BV.out).grown hgr (fun k hk => Or.inl (Or.inr (by rw [HSV2.out]; exact hk))))
  have P1 := Lib.hid (show w4.heap[n]? = some (.cells (pdC d (V n)) 75 (0, 0)) from (hgr.block n PV.out.lt (fun e => HT.out (by rw [HSV2.out]; exact e.symm))).trans PV.out.obj)
  have q6 : w4.cell? ⟨n, 6, none⟩ = some (V n) := by have := P1.out; simp [World.cell?, this, pdC]
  have qf : ∀ o, w4.frozen? ⟨n, o, none⟩ = false := fun o => by have := P1.out; simp [World.frozen?, this]
  obtain ⟨s, es⟩ : ∃ s, s = Value.slice A0 ks.length c := ⟨_, rfl⟩
  have HO := Lib.hid (show s.ownBlock = (V n).ownBlock by rw [es, HSV2.out]; cases A0 <;> rfl)
  have P2 := Lib.hid (show PAt (w4.setCell ⟨n, 6, none⟩ s) n { d with kids := ks } s from by
    have hrs : w4.ownsRow 0 61 1 s ks.length (ks.map ptr) := by rw [es]; exact hrow
    have ht : s.ownBlock ≠ some n := by rw [HO.out]; exact HT.out
    refine ⟨?_, ?_⟩
    · rw [set_obj P1.out 6 s]
      simp [pdC]
    · refine ⟨hrs.1, ?_⟩
      rcases hrs.2 with ⟨e, e2⟩ | ⟨g, c', cur, e, k1, k2, k3⟩
      · exact Or.inl ⟨e, e2⟩
      · have hg : g ≠ n := fun e' => ht (by rw [e, e']; rfl)
        exact Or.inr ⟨g, c', cur, e, k1, by rw [Below.heap_setCell _ _ _ _ hg]; exact k2, k3⟩)
  have K2 := Lib.hid (K1.out.set n 6 s (Or.inl (Or.inl rfl)))
  have K02 := Lib.hid (K0.out.set n 6 s (Or.inl (Or.inl rfl)))
  have AP := Lib.hid (show ∀ c' e g, σ c' = some e → c' ≠ n → (V c').ownBlock = some g → s.ownBlock ≠ some g from fun c' e g hc' hne hg hg2 => hne (HM.out.apart c' n e d g hc' HD.out hg (by rw [← HO.out]; exact hg2)))
  have M2 := Lib.hid (HM.out.put HD.out P2.out K2.out AP.out)
  have CF := Lib.hid (fit_any n { d with kids := ks } _ _ _ M2.out (upd_same _ _ _) (fun k hk' => ⟨(HKS.out k hk').1, by rw [upd_other _ _ (HKS.out k hk').1]; exact (HKS.out k hk').2⟩) HKL.out)
  rw [updV_same, hull_upd (fun k hk' => (HKS.out k hk').1)] at CF
  have HES := Lib.hid es.symm
  unfold ptr at CF
  dsimp only at CF
  rw [es] at CF
  clear hrow hgr c6 c7 CD es
  go_wp2_with fail
  refine (CF.out).mono ?_
  rintro e w5 ⟨rfl, hP3, hK3⟩
  rw [HES.out] at hP3 hK3
  have P3 := Lib.hid hP3
  have K3 := Lib.hid (K2.out.trans hK3 (fun g _ hg => Or.inl hg))
  have K03 := Lib.hid (K02.out.trans hK3 (fun g _ hg => Or.inl hg))
  have nX : Hid (∀ k, w.heap.size ≤ k → ¬ (k = n ∨ (V n).ownBlock = some k)) := Lib.hid fun k hk hx => by
    rcases hx with rfl | hx
    · have := (HM.out.part k d HD.out).lt; omega
    · have := HM.out.foot_lt (Or.inr ⟨n, d, HD.out, hx⟩); omega
  have ch : w5.cell? ⟨h, 0, none⟩ = some (.slice (some ⟨g3, 0, none⟩) m m) := (World.cell?_of_block (w := v) (w' := w5) (a := ⟨h, 0, none⟩) (K03.out.block h HLT.out (nX.out h HW3.out))).trans VH.out
  have O5 := Lib.hid (show w5.ownsRow 0 61 1 (.slice (some ⟨g3, 0, none⟩) m m) m (F.map ptr) from by
    refine ⟨OV.out.1, ?_⟩
    rcases OV.out.2 with ⟨e, e2⟩ | ⟨g', c', cur, e, k1, k2, k3⟩
    · exact Or.inl ⟨e, e2⟩
    · have hg' : g' = g3 := by simp at e; exact e.1.symm
      exact Or.inr ⟨g', c', cur, e, k1, (K03.out.block g' (by rw [hg']; exact G3V.out) (nX.out g' (by rw [hg']; exact G3.out))).trans k2, k3⟩)
  rw [HH.out] at ch
  clear hP3 hK3 q6 qf
  go_wp2_with fail
  go_ret
  refine ⟨F, g3, s, HFL.out, HFN.out, HFK.out, rfl, G3.out, O5.out, HO.out, ?_, K3.out⟩
  rw [← EKS.out]
  exact HM.out.put HD.out P3.out K3.out AP.out
end Go.Proofs.YtobkgamcjfjghaaGreat.Rt
/-
  The tree's own block; contracts of least, many, newItem. Memory that was there is left as it was.
-/
namespace Go.Proofs.YtobkgamcjfjghaaGreat.Rt
open Go.RowKit Go.Proofs.YtobkgamcjfjghaaGreat.Pt Go.Proofs.YtobkgamcjfjghaaGreat.Rc Go.Proofs.YtobkgamcjfjghaaGreat.Rs
set_option linter.unusedVariables false
set_option linter.unusedSimpArgs false
set_option maxRecDepth 100000

/-- The tree: its order, its items' map, its root. -/
def TAt (W : World) (t : Nat) (o : Nat) (mb : Nat) (root : Nat) : Prop := W.heap[t]? = some (.cells #[.int .i64 (o : Int), .map (some mb), ptr root] 64 (0, 0))
section
variable {W V : World} {t o mb root : Nat}
theorem TAt.lt (h : TAt W t o mb root) : t < W.heap.size := (Array.getElem?_eq_some_iff.1 h).1
theorem TAt.cells (h : TAt W t o mb root) : W.cell? ⟨t, 0, none⟩ = some (.int .i64 (o : Int)) ∧ W.cell? ⟨t, 1, none⟩ = some (.map (some mb)) ∧ W.cell? ⟨t, 2, none⟩ = some (ptr root) := by
  unfold TAt at h
  refine ⟨?_, ?_, ?_⟩ <;> simp [World.cell?, h]
theorem TAt.soft (h : TAt W t o mb root) (i : Nat) : W.frozen? ⟨t, i, none⟩ = false := by
  unfold TAt at h
  simp [World.frozen?, h]
theorem TAt.later (h : TAt W t o mb root) (hb : Below W.heap.size W V) : TAt V t o mb root := (hb.block t h.lt).trans h
theorem TAt.keep {X : Nat → Prop} (h : TAt W t o mb root) (hk : Ke X W V) (hx : ¬ X t) : TAt V t o mb root := (hk.block t h.lt hx).trans h
/-- Its block is no part's and no row's. -/
theorem TAt.foot {σ : St} {S : Nat → Value} (h : TAt W t o mb root) (hM : Mem W σ S) : ¬ Foot σ S t := by
  unfold TAt at h
  rintro (⟨d, hd⟩ | ⟨b, d, hd, hg⟩)
  · have := (hM.part t d hd).obj
    rw [h] at this
    simp [pdC] at this
  · obtain ⟨cur, hc⟩ := (hM.part b d hd).rowBlock hg
    rw [h] at hc
    simp at hc
end
def leastN (o : Nat) : Nat := (o + 1) * 2 / 5
def manyN (o : Nat) : Nat := (o + 1) * 3 / 10
theorem least_any (t o mb root : Nat) (w : World) (h : TAt w t o mb root) (h1 : 4 ≤ o) (h2 : o ≤ 16) : Calls Tryz.prog 38 #[ptr t] w fun e w' => e = .returned (.int .i64 (leastN o : Nat)) ∧ w = w' := by
  obtain ⟨c0, -, -⟩ := h.cells
  clear h
  unfold ptr
  rcases (show o = 4 ∨ o = 5 ∨ o = 6 ∨ o = 7 ∨ o = 8 ∨ o = 9 ∨ o = 10 ∨ o = 11 ∨ o = 12 ∨ o = 13 ∨ o = 14 ∨ o = 15 ∨ o = 16 by omega) with rfl | rfl | rfl | rfl | rfl | rfl | rfl | rfl | rfl | rfl | rfl | rfl | rfl
  all_goals
    go_enter Tryz.func38, Tryz.ntmps38
    go_wp2_with fail
    go_ret
    exact ⟨by first | rfl | simp [leastN], rfl⟩
theorem many_any (t o mb root : Nat) (w : World) (h : TAt w t o mb root) (h1 : 4 ≤ o) (h2 : o ≤ 16) : Calls Tryz.prog 58 #[ptr t] w fun e w' => e = .returned (.int .i64 (manyN o : Nat)) ∧ w = w' := by
  obtain ⟨c0, -, -⟩ := h.cells
  clear h
  unfold ptr
  rcases (show o = 4 ∨ o = 5 ∨ o = 6 ∨ o = 7 ∨ o = 8 ∨ o = 9 ∨ o = 10 ∨ o = 11 ∨ o = 12 ∨ o = 13 ∨ o = 14 ∨ o = 15 ∨ o = 16 by omega) with rfl | rfl | rfl | rfl | rfl | rfl | rfl | rfl | rfl | rfl | rfl | rfl | rfl
  all_goals
    go_enter Tryz.func58, Tryz.ntmps58
    go_wp2_with fail
    go_ret
    exact ⟨by first | rfl | simp [manyN], rfl⟩
theorem newItem_any (r : R4) (id : Int) (σ : St) (V : Nat → Value) (w : World) (hM : Mem w σ V) :
    Calls Tryz.prog 25 #[.agg #[.int .i64 r.x1, .int .i64 r.y1, .int .i64 r.x2, .int .i64 r.y2, .int .i64 id]] w fun e w' => ∃ b, e = .returned (ptr b) ∧ w.heap.size ≤ b ∧ σ b = .none ∧ Mem w' (upd σ b ⟨-1, r, id, []⟩) (updV V b (.slice none 0 0)) ∧ Below w.heap.size w w' := by
  obtain ⟨W1, hW1⟩ : ∃ W, W = w.alloc (.cells #[.int .i64 r.x1, .int .i64 r.y1, .int .i64 r.x2, .int .i64 r.y2, .int .i64 id] 36) := ⟨_, rfl⟩
  have B1 : Below w.heap.size w W1 := by rw [hW1]; exact (Below.refl _ _).alloc (Nat.le_refl _) _
  have sz : W1.heap.size = w.heap.size + 1 := by rw [hW1]; simp
  have M1 := hM.later B1
  have hb : σ W1.heap.size = .none := M1.none (Nat.le_refl _)
  have P2 := PAt.made (W := W1) (d := ⟨-1, r, id, []⟩) (s := .slice none 0 0) (World.ownsRow_nil _ _ _ _)
  have M2 := Lib.hid (M1.new hb P2 ((Below.refl _ _).alloc (Nat.le_refl _) _) (fun c e g _ _ => by simp [Value.ownBlock]))
  have B2 := Lib.hid (show Below w.heap.size w (W1.alloc (.cells (pdC ⟨-1, r, id, []⟩ (.slice none 0 0)) 75)) from B1.alloc B1.size _)
  have HB := Lib.hid hb
  unfold pdC at M2 B2
  dsimp only at M2 B2
  rw [hW1, World.size_alloc] at M2 HB
  rw [hW1] at B2
  clear hW1 B1 sz M1 hb P2 hM
  unfold ptr
  go_enter Tryz.func25, Tryz.ntmps25
  go_wp2_with fail
  go_ret
  exact ⟨w.heap.size + 1, by simp, by omega, HB.out, M2.out, B2.out⟩
end Go.Proofs.YtobkgamcjfjghaaGreat.Rt
namespace Go.Proofs.YtobkgamcjfjghaaGreat.Rs
open Go.RowKit Go.Proofs.YtobkgamcjfjghaaGreat.Pt Go.Proofs.YtobkgamcjfjghaaGreat.Rc Go.Proofs.YtobkgamcjfjghaaGreat.Pts
set_option linter.unusedVariables false
set_option linter.unusedSimpArgs false
set_option maxHeartbeats 4000000
set_option maxRecDepth 100000
/-- A sum, a cost as values. -/
def sv (h l : Int) : Value := .agg #[.int .u64 h, .int .u64 l]
def cv (h l g a : Int) : Value := .agg #[.int .u64 h, .int .u64 l, .int .i64 g, .int .i64 a]
theorem add64_at (x y : Int) (hx : 0 ≤ x) (hy : 0 ≤ y) (w : World) : (callFunc 128 #[.int .u64 x, .int .u64 y, .int .u64 0]).run Tryz.prog w = .ok (.value (.tuple #[.int .u64 ((x + y + 0) % 18446744073709551616), .int .u64 ((x + y + 0) / 18446744073709551616)])) w := by
  rw [run_callFunc_extern (P := Tryz.prog) (f := 128) Tryz.func128 (by kernel_rfl) (by kernel_rfl) (by kernel_rfl) (e := add64Entry) (by kernel_rfl), run_add64 x y 0 hx hy (by omega) (by omega)]
  rfl
theorem plus_any (h l n : Int) (w : World) (hl : 0 ≤ l) (hn : 0 ≤ n) : Calls Tryz.prog 125 #[sv h l, .int .u64 n] w fun e w' => ∃ h' l', 0 ≤ l' ∧ e = .returned (sv h' l') ∧ Below w.heap.size w w' := by
  have HB := Lib.hid (below2 w (.cells #[.int .u64 h, .int .u64 l] 147) (.cells #[.int .u64 0, .int .u64 0] 147))
  obtain ⟨q, hq⟩ : ∃ q, q = (l + n + 0) % 18446744073709551616 := ⟨_, rfl⟩
  obtain ⟨c, hc⟩ : ∃ c, c = (l + n + 0) / 18446744073709551616 := ⟨_, rfl⟩
  have A := add64_at l n hl hn
  rw [← hq, ← hc] at A
  have hq0 : 0 ≤ q := by omega
  clear hq hc
  unfold sv
  go_enter Tryz.func125, Tryz.ntmps125
  go_wp2_with (simp only [A])
  refine bodyPost_ret (v := sv (IntKind.u64.wrap (h + c)) q) (by simp [sv, results, Tryz.results125, go_sem, *]) rfl ⟨_, q, hq0, rfl, below2 w _ _⟩
theorem or4 (W : World) (a b c d : Int) (t : TypeId) : ∀ k, k < 4 → ∃ x : Int, (W.alloc (.cells #[.int .i64 a, .int .i64 b, .int .i64 c, .int .i64 d] t)).drew.cell? ⟨W.heap.size, 0 + k, none⟩ = some (.int .i64 x) := by
  intro k hk
  have : k = 0 ∨ k = 1 ∨ k = 2 ∨ k = 3 := by omega
  rcases this with rfl | rfl | rfl | rfl <;> simp [go_sem]
theorem costs_any (h l g a h2 l2 g2 a2 : Int) (w : World) : Calls Tryz.prog 105 #[cv h l g a, cv h2 l2 g2 a2] w fun e w' => ∃ n : Int, e = .returned (.int .i64 n) ∧ Below w.heap.size w w' := by
  obtain ⟨v, hv⟩ : ∃ v, v = (w.alloc (.cells #[.int .u64 h, .int .u64 l, .int .i64 g, .int .i64 a] 149)).alloc (.cells #[.int .u64 h2, .int .u64 l2, .int .i64 g2, .int .i64 a2] 149) := ⟨_, rfl⟩
  have hvs : (w.alloc (.cells #[.int .u64 h, .int .u64 l, .int .i64 g, .int .i64 a] 149)).alloc (.cells #[.int .u64 h2, .int .u64 l2, .int .i64 g2, .int .i64 a2] 149) = v := hv.symm
  have BV := Lib.hid (show Below w.heap.size w v by rw [hv]; exact below2 w _ _)
  have SV : w.heap.size + 1 < v.heap.size := by rw [hv]; simp
  have HS : Hid (∀ W, Below v.heap.size v W → W.cell? ⟨w.heap.size, 0, none⟩ = some (.int .u64 h) ∧ W.cell? ⟨w.heap.size, 1, none⟩ = some (.int .u64 l) ∧ W.cell? ⟨w.heap.size, 2, none⟩ = some (.int .i64 g) ∧ W.cell? ⟨w.heap.size, 3, none⟩ = some (.int .i64 a) ∧ W.cell? ⟨w.heap.size + 1, 0, none⟩ = some (.int .u64 h2) ∧ W.cell? ⟨w.heap.size + 1, 1, none⟩ = some (.int .u64 l2) ∧ W.cell? ⟨w.heap.size + 1, 2, none⟩ = some (.int .i64 g2) ∧ W.cell? ⟨w.heap.size + 1, 3, none⟩ = some (.int .i64 a2) ∧ Below v.heap.size v W) := Lib.hid fun W hB => by
    have q1 : ∀ x, W.cell? ⟨w.heap.size, x, none⟩ = v.cell? ⟨w.heap.size, x, none⟩ := fun x => World.cell?_of_block (w := v) (w' := W) (a := ⟨w.heap.size, x, none⟩) (hB.block w.heap.size (by omega))
    have q2 : ∀ x, W.cell? ⟨w.heap.size + 1, x, none⟩ = v.cell? ⟨w.heap.size + 1, x, none⟩ := fun x => World.cell?_of_block (w := v) (w' := W) (a := ⟨w.heap.size + 1, x, none⟩) (hB.block (w.heap.size + 1) SV)
    simp only [q1, q2]
    refine ⟨?_, ?_, ?_, ?_, ?_, ?_, ?_, ?_, hB⟩ <;> rw [hv] <;> simp
  have HV := Lib.hid hvs
  clear hv hvs SV
  unfold cv
  go_enter Tryz.func105, Tryz.ntmps105
  go_wp2_with fail
  rw [HV.out]
  refine wp_region_held_drew (S := (fun W => W.cell? ⟨w.heap.size, 0, none⟩ = some (.int .u64 h) ∧ W.cell? ⟨w.heap.size, 1, none⟩ = some (.int .u64 l) ∧ W.cell? ⟨w.heap.size, 2, none⟩ = some (.int .i64 g) ∧ W.cell? ⟨w.heap.size, 3, none⟩ = some (.int .i64 a) ∧ W.cell? ⟨w.heap.size + 1, 0, none⟩ = some (.int .u64 h2) ∧ W.cell? ⟨w.heap.size + 1, 1, none⟩ = some (.int .u64 l2) ∧ W.cell? ⟨w.heap.size + 1, 2, none⟩ = some (.int .i64 g2) ∧ W.cell? ⟨w.heap.size + 1, 3, none⟩ = some (.int .i64 a2) ∧ Below v.heap.size v W)) (by kernel_rfl) (HS.out _ (Below.drew (Below.refl _ _))) (fun hHeld => ?_)
  refine wpAnyH_take (i := 0) (v := ?v0) rfl (by kernel_rfl) (by kernel_rfl) (by kernel_rfl) (fun _ _ _ h => h) (Or.inl ⟨by rfl, ?y0⟩) hHeld ?r0
  case y0 => (intro W hSw; simp only [List.getElem_toArray, List.getElem_cons_zero]; go_simp; try (with_reducible rfl))
  simp only [List.getElem_toArray, List.getElem_cons_zero, Act.put, List.setIfInBounds_toArray, List.set_cons_zero, List.set_cons_succ]
  refine wpAnyH_take (i := 1) (v := ?v1) rfl (by kernel_rfl) (by kernel_rfl) (by kernel_rfl) (fun _ _ _ h => h) (Or.inl ⟨by rfl, ?y1⟩) hHeld ?r1
  case y1 => (intro W hSw; simp only [List.getElem_toArray, List.getElem_cons_succ, List.getElem_cons_zero]; go_simp; try (with_reducible rfl))
  simp only [List.getElem_toArray, List.getElem_cons_succ, List.getElem_cons_zero, Act.put, List.setIfInBounds_toArray, List.set_cons_zero, List.set_cons_succ]
  refine wpAnyH_take (i := 2) (v := ?v2) rfl (by kernel_rfl) (by kernel_rfl) (by kernel_rfl) (fun _ _ _ h => h) (Or.inl ⟨by rfl, ?y2⟩) hHeld ?r2
  case y2 => (intro W hSw; simp only [List.getElem_toArray, List.getElem_cons_succ, List.getElem_cons_zero]; go_simp; try (with_reducible rfl))
  simp only [List.getElem_toArray, List.getElem_cons_succ, List.getElem_cons_zero, Act.put, List.setIfInBounds_toArray, List.set_cons_zero, List.set_cons_succ]
  refine wpAnyH_take (i := 3) (v := ?v3) rfl (by kernel_rfl) (by kernel_rfl) (by kernel_rfl) (fun _ _ _ h => h) (Or.inl ⟨by rfl, ?y3⟩) hHeld ?r3
  case y3 => (intro W hSw; simp only [List.getElem_toArray, List.getElem_cons_succ, List.getElem_cons_zero]; go_simp; try (with_reducible rfl))
  simp only [List.getElem_toArray, List.getElem_cons_succ, List.getElem_cons_zero, Act.put, List.setIfInBounds_toArray, List.set_cons_zero, List.set_cons_succ]
  refine wpAnyH_take (i := 4) (v := ?v4) rfl (by kernel_rfl) (by kernel_rfl) (by kernel_rfl) (fun _ _ _ h => h) (Or.inl ⟨by rfl, ?y4⟩) hHeld ?r4
  case y4 => (intro W hSw; simp only [List.getElem_toArray, List.getElem_cons_succ, List.getElem_cons_zero]; go_simp; try (with_reducible rfl))
  simp only [List.getElem_toArray, List.getElem_cons_succ, List.getElem_cons_zero, Act.put, List.setIfInBounds_toArray, List.set_cons_zero, List.set_cons_succ]
  refine wpAnyH_take (i := 5) (v := ?v5) rfl (by kernel_rfl) (by kernel_rfl) (by kernel_rfl) (fun _ _ _ h => h) (Or.inl ⟨by rfl, ?y5⟩) hHeld ?r5
  case y5 => (intro W hSw; simp only [List.getElem_toArray, List.getElem_cons_succ, List.getElem_cons_zero]; go_simp; try (with_reducible rfl))
  simp only [List.getElem_toArray, List.getElem_cons_succ, List.getElem_cons_zero, Act.put, List.setIfInBounds_toArray, List.set_cons_zero, List.set_cons_succ]
  refine wpAnyH_take (i := 7) (v := ?v7) rfl (by kernel_rfl) (by kernel_rfl) (by kernel_rfl) (fun _ _ _ h => h) (Or.inl ⟨by rfl, ?y7⟩) hHeld ?r7
  case y7 => (intro W hSw; simp only [List.getElem_toArray, List.getElem_cons_succ, List.getElem_cons_zero]; go_simp; try (with_reducible rfl))
  simp only [List.getElem_toArray, List.getElem_cons_succ, List.getElem_cons_zero, Act.put, List.setIfInBounds_toArray, List.set_cons_zero, List.set_cons_succ]
  refine wpAnyH_take (i := 8) (v := ?v8) rfl (by kernel_rfl) (by kernel_rfl) (by kernel_rfl) (fun _ _ _ h => h) (Or.inl ⟨by rfl, ?y8⟩) hHeld ?r8
  case y8 => (intro W hSw; simp only [List.getElem_toArray, List.getElem_cons_succ, List.getElem_cons_zero]; go_simp; try (with_reducible rfl))
  simp only [List.getElem_toArray, List.getElem_cons_succ, List.getElem_cons_zero, Act.put, List.setIfInBounds_toArray, List.set_cons_zero, List.set_cons_succ]
  refine wpAnyH_take (i := 9) (v := ?v9) rfl (by kernel_rfl) (by kernel_rfl) (by kernel_rfl) (fun _ _ _ h => h) (Or.inl ⟨by rfl, ?y9⟩) hHeld ?r9
  case y9 => (intro W hSw; simp only [List.getElem_toArray, List.getElem_cons_succ, List.getElem_cons_zero]; go_simp; try (with_reducible rfl))
  simp only [List.getElem_toArray, List.getElem_cons_succ, List.getElem_cons_zero, Act.put, List.setIfInBounds_toArray, List.set_cons_zero, List.set_cons_succ]
  refine wpAnyH_take (i := 10) (v := ?v10) rfl (by kernel_rfl) (by kernel_rfl) (by kernel_rfl) (fun _ _ _ h => h) (Or.inl ⟨by rfl, ?y10⟩) hHeld ?r10
  case y10 => (intro W hSw; simp only [List.getElem_toArray, List.getElem_cons_succ, List.getElem_cons_zero]; go_simp; try (with_reducible rfl))
  simp only [List.getElem_toArray, List.getElem_cons_succ, List.getElem_cons_zero, Act.put, List.setIfInBounds_toArray, List.set_cons_zero, List.set_cons_succ]
  refine wpAnyH_take (i := 11) (v := ?v11) rfl (by kernel_rfl) (by kernel_rfl) (by kernel_rfl) (fun _ _ _ h => h) (Or.inl ⟨by rfl, ?y11⟩) hHeld ?r11
  case y11 => (intro W hSw; simp only [List.getElem_toArray, List.getElem_cons_succ, List.getElem_cons_zero]; go_simp; try (with_reducible rfl))
  simp only [List.getElem_toArray, List.getElem_cons_succ, List.getElem_cons_zero, Act.put, List.setIfInBounds_toArray, List.set_cons_zero, List.set_cons_succ]
  refine wpAnyH_take (i := 12) (v := ?v12) rfl (by kernel_rfl) (by kernel_rfl) (by kernel_rfl) (fun _ _ _ h => h) (Or.inl ⟨by rfl, ?y12⟩) hHeld ?r12
  case y12 => (intro W hSw; simp only [List.getElem_toArray, List.getElem_cons_succ, List.getElem_cons_zero]; go_simp; try (with_reducible rfl))
  simp only [List.getElem_toArray, List.getElem_cons_succ, List.getElem_cons_zero, Act.put, List.setIfInBounds_toArray, List.set_cons_zero, List.set_cons_succ]
  refine wpAnyH_take (i := 14) (v := ?v14) rfl (by kernel_rfl) (by kernel_rfl) (by kernel_rfl) (fun _ _ _ h => h) (Or.inl ⟨by rfl, ?y14⟩) hHeld ?r14
  case y14 => (intro W hSw; simp only [List.getElem_toArray, List.getElem_cons_succ, List.getElem_cons_zero]; go_simp; try (with_reducible rfl))
  simp only [List.getElem_toArray, List.getElem_cons_succ, List.getElem_cons_zero, Act.put, List.setIfInBounds_toArray, List.set_cons_zero, List.set_cons_succ]
  refine wpAnyH_take (i := 15) (v := ?v15) rfl (by kernel_rfl) (by kernel_rfl) (by kernel_rfl) (fun _ _ _ h => h) (Or.inl ⟨by rfl, ?y15⟩) hHeld ?r15
  case y15 => (intro W hSw; simp only [List.getElem_toArray, List.getElem_cons_succ, List.getElem_cons_zero]; go_simp; try (with_reducible rfl))
  simp only [List.getElem_toArray, List.getElem_cons_succ, List.getElem_cons_zero, Act.put, List.setIfInBounds_toArray, List.set_cons_zero, List.set_cons_succ]
  refine wpAnyH_take (i := 16) (v := ?v16) rfl (by kernel_rfl) (by kernel_rfl) (by kernel_rfl) (fun _ _ _ h => h) (Or.inl ⟨by rfl, ?y16⟩) hHeld ?r16
  case y16 => (intro W hSw; simp only [List.getElem_toArray, List.getElem_cons_succ, List.getElem_cons_zero]; go_simp; try (with_reducible rfl))
  simp only [List.getElem_toArray, List.getElem_cons_succ, List.getElem_cons_zero, Act.put, List.setIfInBounds_toArray, List.set_cons_zero, List.set_cons_succ]
  refine wpAnyH_take (i := 17) (v := ?v17) rfl (by kernel_rfl) (by kernel_rfl) (by kernel_rfl) (fun _ _ _ h => h) (Or.inl ⟨by rfl, ?y17⟩) hHeld ?r17
  case y17 => (intro W hSw; simp only [List.getElem_toArray, List.getElem_cons_succ, List.getElem_cons_zero]; go_simp; try (with_reducible rfl))
  simp only [List.getElem_toArray, List.getElem_cons_succ, List.getElem_cons_zero, Act.put, List.setIfInBounds_toArray, List.set_cons_zero, List.set_cons_succ]
  refine wpAnyH_take (i := 19) (v := ?v19) rfl (by kernel_rfl) (by kernel_rfl) (by kernel_rfl) (fun _ _ _ h => h) (Or.inl ⟨by rfl, ?y19⟩) hHeld ?r19
  case y19 => (intro W hSw; simp only [List.getElem_toArray, List.getElem_cons_succ, List.getElem_cons_zero]; go_simp; try (with_reducible rfl))
  simp only [List.getElem_toArray, List.getElem_cons_succ, List.getElem_cons_zero, Act.put, List.setIfInBounds_toArray, List.set_cons_zero, List.set_cons_succ]
  refine wpAnyH_take (i := 20) (v := ?v20) rfl (by kernel_rfl) (by kernel_rfl) (by kernel_rfl) (fun _ _ _ h => h) (Or.inl ⟨by rfl, ?y20⟩) hHeld ?r20
  case y20 => (intro W hSw; simp only [List.getElem_toArray, List.getElem_cons_succ, List.getElem_cons_zero]; go_simp; try (with_reducible rfl))
  simp only [List.getElem_toArray, List.getElem_cons_succ, List.getElem_cons_zero, Act.put, List.setIfInBounds_toArray, List.set_cons_zero, List.set_cons_succ]
  refine wpAnyH_take (i := 21) (v := ?v21) rfl (by kernel_rfl) (by kernel_rfl) (by kernel_rfl) (fun _ _ _ h => h) (Or.inl ⟨by rfl, ?y21⟩) hHeld ?r21
  case y21 => (intro W hSw; simp only [List.getElem_toArray, List.getElem_cons_succ, List.getElem_cons_zero]; go_simp; try (with_reducible rfl))
  simp only [List.getElem_toArray, List.getElem_cons_succ, List.getElem_cons_zero, Act.put, List.setIfInBounds_toArray, List.set_cons_zero, List.set_cons_succ]
  refine wpAnyH_take (i := 22) (v := ?v22) rfl (by kernel_rfl) (by kernel_rfl) (by kernel_rfl) (fun _ _ _ h => h) (Or.inl ⟨by rfl, ?y22⟩) hHeld ?r22
  case y22 => (intro W hSw; simp only [List.getElem_toArray, List.getElem_cons_succ, List.getElem_cons_zero]; go_simp; try (with_reducible rfl))
  simp only [List.getElem_toArray, List.getElem_cons_succ, List.getElem_cons_zero, Act.put, List.setIfInBounds_toArray, List.set_cons_zero, List.set_cons_succ]
  refine wpAnyH_ready (rs := [6]) (by kernel_rfl) (by simp) (AllReadyH.cons rfl (fun K hK => ?_) AllReadyH.nil)
  simp only [List.getElem_toArray, List.getElem_cons_succ, List.getElem_cons_zero]
  go_simp
  go_at_call 114; refine (cmpU_any _ _ _).mono ?_; rintro e w1 ⟨n6, rfl, rfl⟩
  try go_wp2_with fail
  refine hK.out _ _ (by first | exact hHeld | exact HS.out _ (hHeld.2.2.2.2.2.2.2.2.alloc hHeld.2.2.2.2.2.2.2.2.size _)) (fun hHeld1 => ?_)
  clear hK K hHeld
  have hHeld := hHeld1; clear hHeld1
  try simp only [List.getElem_toArray, List.getElem_cons_succ, List.getElem_cons_zero, Act.put, List.setIfInBounds_toArray, List.set_cons_zero, List.set_cons_succ]
  refine wpAnyH_ready (rs := [13]) (by kernel_rfl) (by simp) (AllReadyH.cons rfl (fun K hK => ?_) AllReadyH.nil)
  simp only [List.getElem_toArray, List.getElem_cons_succ, List.getElem_cons_zero]
  go_simp
  go_at_call 114; refine (cmpU_any _ _ _).mono ?_; rintro e w1 ⟨n13, rfl, rfl⟩
  try go_wp2_with fail
  refine hK.out _ _ (by first | exact hHeld | exact HS.out _ (hHeld.2.2.2.2.2.2.2.2.alloc hHeld.2.2.2.2.2.2.2.2.size _)) (fun hHeld1 => ?_)
  clear hK K hHeld
  have hHeld := hHeld1; clear hHeld1
  try simp only [List.getElem_toArray, List.getElem_cons_succ, List.getElem_cons_zero, Act.put, List.setIfInBounds_toArray, List.set_cons_zero, List.set_cons_succ]
  refine wpAnyH_ready (rs := [18]) (by kernel_rfl) (by simp) (AllReadyH.cons rfl (fun K hK => ?_) AllReadyH.nil)
  simp only [List.getElem_toArray, List.getElem_cons_succ, List.getElem_cons_zero]
  go_simp
  go_at_call 96; refine (cmpI_any _ _ _).mono ?_; rintro e w1 ⟨n18, rfl, rfl⟩
  try go_wp2_with fail
  refine hK.out _ _ (by first | exact hHeld | exact HS.out _ (hHeld.2.2.2.2.2.2.2.2.alloc hHeld.2.2.2.2.2.2.2.2.size _)) (fun hHeld1 => ?_)
  clear hK K hHeld
  have hHeld := hHeld1; clear hHeld1
  try simp only [List.getElem_toArray, List.getElem_cons_succ, List.getElem_cons_zero, Act.put, List.setIfInBounds_toArray, List.set_cons_zero, List.set_cons_succ]
  refine wpAnyH_ready (rs := [23]) (by kernel_rfl) (by simp) (AllReadyH.cons rfl (fun K hK => ?_) AllReadyH.nil)
  simp only [List.getElem_toArray, List.getElem_cons_succ, List.getElem_cons_zero]
  go_simp
  go_at_call 96; refine (cmpI_any _ _ _).mono ?_; rintro e w1 ⟨n23, rfl, rfl⟩
  try go_wp2_with fail
  refine hK.out _ _ (by first | exact hHeld | exact HS.out _ (hHeld.2.2.2.2.2.2.2.2.alloc hHeld.2.2.2.2.2.2.2.2.size _)) (fun hHeld1 => ?_)
  clear hK K hHeld
  have hHeld := hHeld1; clear hHeld1
  try simp only [List.getElem_toArray, List.getElem_cons_succ, List.getElem_cons_zero, Act.put, List.setIfInBounds_toArray, List.set_cons_zero, List.set_cons_succ]
  refine wpAnyH_ready (rs := [24]) (by kernel_rfl) (by simp) (AllReadyH.cons rfl (fun K hK => ?_) AllReadyH.nil)
  simp only [List.getElem_toArray, List.getElem_cons_succ, List.getElem_cons_zero]
  go_simp
  skip
  try go_wp2_with fail
  refine hK.out _ _ (by first | exact hHeld | exact HS.out _ (hHeld.2.2.2.2.2.2.2.2.alloc hHeld.2.2.2.2.2.2.2.2.size _)) (fun hHeld1 => ?_)
  clear hK K hHeld
  have hHeld := hHeld1; clear hHeld1
  try simp only [List.getElem_toArray, List.getElem_cons_succ, List.getElem_cons_zero, Act.put, List.setIfInBounds_toArray, List.set_cons_zero, List.set_cons_succ]
  refine wpAnyH_ready (rs := [25]) (by kernel_rfl) (by simp) (AllReadyH.cons rfl (fun K hK => ?_) AllReadyH.nil)
  simp only [List.getElem_toArray, List.getElem_cons_succ, List.getElem_cons_zero]
  go_simp
  go_at_call 113; refine (or_any _ _ _ _ _ (by omega) (or4 _ _ _ _ _ _)).mono ?_
  rintro e w1 ⟨n25, rfl, rfl⟩
  try go_wp2_with fail
  refine hK.out _ _ (by first | exact hHeld | exact HS.out _ (hHeld.2.2.2.2.2.2.2.2.alloc hHeld.2.2.2.2.2.2.2.2.size _)) (fun hHeld1 => ?_)
  clear hK K hHeld
  have hHeld := hHeld1; clear hHeld1
  try simp only [List.getElem_toArray, List.getElem_cons_succ, List.getElem_cons_zero, Act.put, List.setIfInBounds_toArray, List.set_cons_zero, List.set_cons_succ]
  refine wpAnyH_take (i := 26) (v := ?v26) rfl (by kernel_rfl) (by kernel_rfl) (by kernel_rfl) (fun _ _ _ h => h) (Or.inl ⟨by rfl, ?y26⟩) hHeld ?r26
  case y26 => (intro W hSw; simp only [List.getElem_toArray, List.getElem_cons_succ, List.getElem_cons_zero]; go_simp; try (with_reducible rfl))
  simp only [List.getElem_toArray, List.getElem_cons_succ, List.getElem_cons_zero, Act.put, List.setIfInBounds_toArray, List.set_cons_zero, List.set_cons_succ]
  refine wpAnyH_done (by kernel_rfl) ?_ _
  have HZ := Lib.hid hHeld.2.2.2.2.2.2.2.2
  clear hHeld
  go_wp2_with fail
  go_ret
  exact ⟨n25, rfl, BV.out.trans (HZ.out.mono BV.out.size)⟩
end Go.Proofs.YtobkgamcjfjghaaGreat.Rs
