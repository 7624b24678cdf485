/-
  Contract of the law's found: the numbers of those items that meet a rectangle, rising, in a row of the call's own. Memory that was there is left as it was.
-/
import Derived.Test.YtobkgamcjfjghaaGreatMp21
import Derived.Test.YtobkgamcjfjghaaGreatMp25
import Derived.BigQuiet
import Derived.Laws.AppendOwnNone
namespace Go.Proofs.YtobkgamcjfjghaaGreat.Rt
open Go.RowKit Go.Joins Go.Proofs.YtobkgamcjfjghaaGreat.Pt Go.Proofs.YtobkgamcjfjghaaGreat.Rc Go.Proofs.YtobkgamcjfjghaaGreat.Rs
set_option linter.unusedVariables false
set_option linter.unusedSimpArgs false
set_option maxHeartbeats 8000000
set_option maxRecDepth 100000

theorem oneL (xs : List Int) : ∀ u ∈ xs.map (Value.int .i64), u.oneCell' = true := by
  intro u hu
  obtain ⟨x, _, rfl⟩ := List.mem_map.1 hu
  rfl
theorem own_base {W : World} {base base' n : Nat} {t : TypeId} {v : Value} {xs : List Value} (h : W.ownsRow base t 1 v n xs) (hb : base' ≤ base) : W.ownsRow base' t 1 v n xs := by
  rcases h with ⟨h1, h2 | ⟨g, cap, cur, e, h3, h4⟩⟩
  · exact ⟨h1, Or.inl h2⟩
  · exact ⟨h1, Or.inr ⟨g, cap, cur, e, by omega, h4⟩⟩
/-- What is found of a list. -/
def lfd (l : List (R4 × Int)) (r : R4) : List Int := fndI ((l.filter fun p => meetB p.1 r).map Prod.snd)
theorem lfd_yes {l : List (R4 × Int)} {r : R4} {j : Nat} (hj : j < l.length) (h : meetB l[j].1 r = true) : lfd (l.take (j + 1)) r = insI l[j].2 (lfd (l.take j) r) := by
  unfold lfd
  rw [List.take_succ_eq_append_getElem hj, List.filter_append, List.map_append]
  simp only [List.filter_cons, h, if_true, List.filter_nil, List.map_cons, List.map_nil]
  exact fndI_snoc _ _
theorem lfd_no {l : List (R4 × Int)} {r : R4} {j : Nat} (hj : j < l.length) (h : meetB l[j].1 r = false) : lfd (l.take (j + 1)) r = lfd (l.take j) r := by
  unfold lfd
  rw [List.take_succ_eq_append_getElem hj, List.filter_append, List.map_append]
  simp [h]
theorem lfd_len (l : List (R4 × Int)) (r : R4) : (lfd l r).length ≤ l.length := by
  unfold lfd
  have h := (fold_ins ((l.filter fun p => meetB p.1 r).map Prod.snd) [] List.Pairwise.nil).1.length_eq
  unfold fndI
  rw [h, List.append_nil, List.length_map]
  exact List.length_filter_le _ _
def CutM (wr : World) (b : Bool) (s8 : Value) (wx : World) : Prop := s8 = .bool b ∧ Below wr.heap.size wr wx
def FdR (l : List (R4 × Int)) (r : R4) (w : World) (vo vi : Value) (wr : World) : Prop :=
  ∃ j : Nat, vi = .int .i64 (j : Int) ∧ j ≤ l.length ∧ wr.ownsRow w.heap.size 3 1 vo (lfd (l.take j) r).length ((lfd (l.take j) r).map (Value.int .i64)) ∧ (lfd (l.take j) r = [] → vo = .slice none 0 0) ∧ Below w.heap.size w wr
def FnR (zs : List Int) (x : Int) (w6 : World) (vk : Value) (wk : World) : Prop := ∃ k q : Nat, vk = .int .i64 (k : Int) ∧ k ≤ zs.length ∧ (∀ (i : Nat) (hi : i < zs.length), i < k → zs[i] < x) ∧ wk = w6.drewN q
theorem lfound_any (s : Value) (l : List (R4 × Int)) (r : R4) (w : World) (h1 : RowT w s l) (hr : may4 r) (hm : ∀ p ∈ l, may4 p.1) (hl : l.length ≤ 10000) :
    Calls Tryz.prog 17 #[s, .agg #[.int .i64 r.x1, .int .i64 r.y1, .int .i64 r.x2, .int .i64 r.y2]] w fun e w' => ∃ v, e = .returned v ∧ w'.ownsRow w.heap.size 3 1 v (lfd l r).length ((lfd l r).map (Value.int .i64)) ∧ Below w.heap.size w w' := by
  obtain ⟨A1, d1, rfl, g1, q1⟩ := h1.form
  have G1 := Lib.hid g1
  have R1 := Lib.hid q1
  obtain ⟨n, hn⟩ : ∃ k, k = l.length := ⟨_, rfl⟩
  have NN := Lib.hid hn
  rw [← hn] at hl ⊢
  have HM := Lib.hid hm
  obtain ⟨i0, hi0, hz0, hz1, hz2⟩ := info_parts A.infoNi
  have hbe := fun W => run_emptyI W hi0
  obtain ⟨v, hv⟩ : ∃ v, v = w.alloc (.cells (rC r) 26) := ⟨_, rfl⟩
  have BV := Lib.hid (show Below w.heap.size w v by rw [hv]; exact (Below.refl _ _).alloc (Nat.le_refl _) _)
  have VR := Lib.hid (show v.heap[w.heap.size]? = some (.cells (rC r) 26 (0, 0)) by rw [hv]; exact (MapKept.heap_alloc w _).1)
  have HV := Lib.hid hv
  have HVS := Lib.hid (show w.heap.size < v.heap.size by rw [hv]; simp)
  unfold rC at hv
  have R0 := Lib.hid (show FdR l r v (.slice none 0 0) (.int .i64 (0 : Nat)) v from ⟨0, rfl, Nat.zero_le _, World.ownsRow_nil _ _ _ _, fun _ => rfl, Below.refl _ _⟩)
  clear h1 g1 q1 hm hn
  go_enter Tryz.func17, Tryz.ntmps17
  go_wp2_with fail
  rw [← hv]
  clear hv
  go_loopw [5, 6] (fun vo vi wr => FdR l r v vo vi wr) (fun _ vi _ => n - (intOf vi).toNat)
  case atStart => exact R0.out
  case round =>
    clear R0
    obtain ⟨j, rfl, hj, hO, hnil, hB⟩ := hrel
    have HO := Lib.hid hO
    have HNIL := Lib.hid hnil
    have HB := Lib.hid hB
    rw [← NN.out] at hj
    clear hO hnil hB
    by_cases hlt : j < n
    · have hlz : (j : Int) < (n : Int) := by omega
      have hj0 : (0 : Int) ≤ (j : Int) := by omega
      have hjl : j < l.length := by rw [← NN.out]; exact hlt
      obtain ⟨a1, rfl⟩ := G1.out (by omega)
      obtain ⟨it, hit⟩ : ∃ it, it = l[j] := ⟨_, rfl⟩
      obtain ⟨⟨x1, y1, x2, y2⟩, id⟩ := it
      have hbw : Below w.heap.size w wr := BV.out.trans (HB.out.mono BV.out.size)
      have HBW := Lib.hid hbw
      have c0 : wr.cell? ⟨a1, j * 5, none⟩ = some (.int .i64 x1) := by have := R1.out a1 rfl wr hbw j 0 hjl (by omega); rw [← hit] at this; exact this
      have c1 : wr.cell? ⟨a1, j * 5 + 1, none⟩ = some (.int .i64 y1) := by have := R1.out a1 rfl wr hbw j 1 hjl (by omega); rw [← hit] at this; exact this
      have c2 : wr.cell? ⟨a1, j * 5 + 2, none⟩ = some (.int .i64 x2) := by have := R1.out a1 rfl wr hbw j 2 hjl (by omega); rw [← hit] at this; exact this
      have c3 : wr.cell? ⟨a1, j * 5 + 3, none⟩ = some (.int .i64 y2) := by have := R1.out a1 rfl wr hbw j 3 hjl (by omega); rw [← hit] at this; exact this
      have cid : Hid (∀ Wz, Below w.heap.size w Wz → Wz.cell? ⟨a1, j * 5 + 4, none⟩ = some (.int .i64 id)) := Lib.hid fun Wz hz => by have := R1.out a1 rfl Wz hz j 4 hjl (by omega); rw [← hit] at this; exact this
      obtain ⟨p0, p1, p2, p3, -⟩ := rc_cells ((HB.out.block w.heap.size HVS.out).trans VR.out)
      have HS : Hid (∀ Wz, Below wr.heap.size wr Wz → (fun Wz : World => Wz.cell? ⟨a1, j * 5, none⟩ = some (.int .i64 x1) ∧ Wz.cell? ⟨a1, j * 5 + 1, none⟩ = some (.int .i64 y1) ∧ Wz.cell? ⟨a1, j * 5 + 2, none⟩ = some (.int .i64 x2) ∧ Wz.cell? ⟨a1, j * 5 + 3, none⟩ = some (.int .i64 y2) ∧ Wz.cell? ⟨w.heap.size, 0, none⟩ = some (.int .i64 r.x1) ∧ Wz.cell? ⟨w.heap.size, 1, none⟩ = some (.int .i64 r.y1) ∧ Wz.cell? ⟨w.heap.size, 2, none⟩ = some (.int .i64 r.x2) ∧ Wz.cell? ⟨w.heap.size, 3, none⟩ = some (.int .i64 r.y2) ∧ Below wr.heap.size wr Wz) Wz) := Lib.hid fun Wz hz => by
        have hc : ∀ (q a : Nat) (y : Value), wr.cell? ⟨q, a, none⟩ = some y → Wz.cell? ⟨q, a, none⟩ = some y := fun q a y hy => (World.cell?_of_block (hz.block q (World.block_lt_of_cell? _ _ hy))).trans hy
        exact ⟨hc _ _ _ c0, hc _ _ _ c1, hc _ _ _ c2, hc _ _ _ c3, hc _ _ _ p0, hc _ _ _ p1, hc _ _ _ p2, hc _ _ _ p3, hz⟩
      obtain ⟨mb, emb⟩ : ∃ mb, mb = meetB ⟨x1, y1, x2, y2⟩ r := ⟨_, rfl⟩
      have CG := Lib.hid (fun W => refMeet_all ⟨x1, y1, x2, y2⟩ r (by have := HM.out l[j] (List.getElem_mem hjl); rw [← hit] at this; exact this) hr W)
      rw [← emb] at CG
      have STY := Lib.hid (show mb = true → lfd (l.take (j + 1)) r = insI id (lfd (l.take j) r) from fun h => by
        have := lfd_yes (r := r) hjl (by rw [← hit]; exact (emb ▸ h))
        rw [← hit] at this
        exact this)
      have STN := Lib.hid (show mb = false → lfd (l.take (j + 1)) r = lfd (l.take j) r from fun h => lfd_no (r := r) hjl (by rw [← hit]; exact (emb ▸ h)))
      have HJN := Lib.hid (show j + 1 ≤ l.length from hjl)
      dsimp only at CG
      clear c0 c1 c2 c3 p0 p1 p2 p3 emb hit hjl hbw hlt
      go_wp2_with fail
      go_cut [8] from 11 to 64 (fun s8 wx => CutM wr mb s8 wx)
      case first =>
        refine wp_region_held_drew (S := (fun Wz : World => Wz.cell? ⟨a1, j * 5, none⟩ = some (.int .i64 x1) ∧ Wz.cell? ⟨a1, j * 5 + 1, none⟩ = some (.int .i64 y1) ∧ Wz.cell? ⟨a1, j * 5 + 2, none⟩ = some (.int .i64 x2) ∧ Wz.cell? ⟨a1, j * 5 + 3, none⟩ = some (.int .i64 y2) ∧ Wz.cell? ⟨w.heap.size, 0, none⟩ = some (.int .i64 r.x1) ∧ Wz.cell? ⟨w.heap.size, 1, none⟩ = some (.int .i64 r.y1) ∧ Wz.cell? ⟨w.heap.size, 2, none⟩ = some (.int .i64 r.x2) ∧ Wz.cell? ⟨w.heap.size, 3, none⟩ = some (.int .i64 r.y2) ∧ Below wr.heap.size wr Wz)) (by kernel_rfl) (HS.out _ (Below.drew (Below.refl _ _))) (fun hHeld => ?_)
        refine wpAnyH_take (i := 0) (v := ?vQ0) rfl (by kernel_rfl) (by kernel_rfl) (by kernel_rfl) (fun _ _ _ h => h) (Or.inl ⟨by rfl, ?yQ0⟩) hHeld ?rQ0
        case yQ0 => (intro W hSw; simp only [List.getElem_toArray, List.getElem_cons_zero]; go_simp; try (with_reducible rfl))
        simp only [List.getElem_toArray, List.getElem_cons_zero, Act.put, List.setIfInBounds_toArray, List.set_cons_zero, List.set_cons_succ]
        refine wpAnyH_take (i := 1) (v := ?vQ1) rfl (by kernel_rfl) (by kernel_rfl) (by kernel_rfl) (fun _ _ _ h => h) (Or.inl ⟨by rfl, ?yQ1⟩) hHeld ?rQ1
        case yQ1 => (intro W hSw; simp only [List.getElem_toArray, List.getElem_cons_succ, List.getElem_cons_zero]; go_simp; try (with_reducible rfl))
        simp only [List.getElem_toArray, List.getElem_cons_succ, List.getElem_cons_zero, Act.put, List.setIfInBounds_toArray, List.set_cons_zero, List.set_cons_succ]
        refine wpAnyH_take (i := 2) (v := ?vQ2) rfl (by kernel_rfl) (by kernel_rfl) (by kernel_rfl) (fun _ _ _ h => h) (Or.inl ⟨by rfl, ?yQ2⟩) hHeld ?rQ2
        case yQ2 => (intro W hSw; simp only [List.getElem_toArray, List.getElem_cons_succ, List.getElem_cons_zero]; go_simp; try (with_reducible rfl))
        simp only [List.getElem_toArray, List.getElem_cons_succ, List.getElem_cons_zero, Act.put, List.setIfInBounds_toArray, List.set_cons_zero, List.set_cons_succ]
        refine wpAnyH_take (i := 3) (v := ?vQ3) rfl (by kernel_rfl) (by kernel_rfl) (by kernel_rfl) (fun _ _ _ h => h) (Or.inl ⟨by rfl, ?yQ3⟩) hHeld ?rQ3
        case yQ3 => (intro W hSw; simp only [List.getElem_toArray, List.getElem_cons_succ, List.getElem_cons_zero]; go_simp; try (with_reducible rfl))
        simp only [List.getElem_toArray, List.getElem_cons_succ, List.getElem_cons_zero, Act.put, List.setIfInBounds_toArray, List.set_cons_zero, List.set_cons_succ]
        refine wpAnyH_take (i := 4) (v := ?vQ4) rfl (by kernel_rfl) (by kernel_rfl) (by kernel_rfl) (fun _ _ _ h => h) (Or.inl ⟨by rfl, ?yQ4⟩) hHeld ?rQ4
        case yQ4 => (intro W hSw; simp only [List.getElem_toArray, List.getElem_cons_succ, List.getElem_cons_zero]; go_simp; try (with_reducible rfl))
        simp only [List.getElem_toArray, List.getElem_cons_succ, List.getElem_cons_zero, Act.put, List.setIfInBounds_toArray, List.set_cons_zero, List.set_cons_succ]
        refine wpAnyH_take (i := 5) (v := ?vQ5) rfl (by kernel_rfl) (by kernel_rfl) (by kernel_rfl) (fun _ _ _ h => h) (Or.inl ⟨by rfl, ?yQ5⟩) hHeld ?rQ5
        case yQ5 => (intro W hSw; simp only [List.getElem_toArray, List.getElem_cons_succ, List.getElem_cons_zero]; go_simp; try (with_reducible rfl))
        simp only [List.getElem_toArray, List.getElem_cons_succ, List.getElem_cons_zero, Act.put, List.setIfInBounds_toArray, List.set_cons_zero, List.set_cons_succ]
        refine wpAnyH_ready (rs := [6, 10]) (by kernel_rfl) (by simp) (AllReadyH.cons rfl (fun K hK => ?_) (AllReadyH.cons rfl (fun K hK => ?_) AllReadyH.nil))
        · simp only [List.getElem_toArray, List.getElem_cons_succ, List.getElem_cons_zero]
          go_simp
          go_at_call 29
          refine Calls.mono (CG.out _) ?_
          rintro e wg ⟨⟨cc, rfl⟩, hbg⟩
          have BG := Lib.hid (hHeld.2.2.2.2.2.2.2.2.trans (hbg.mono hHeld.2.2.2.2.2.2.2.2.size))
          refine hK.out _ _ (by exact HS.out _ BG.out) (fun hHeld1 => ?_)
          clear hK K hHeld hbg
          have hHeld := hHeld1; clear hHeld1
          try simp only [List.getElem_toArray, List.getElem_cons_succ, List.getElem_cons_zero, Act.put, List.setIfInBounds_toArray, List.set_cons_zero, List.set_cons_succ]
          refine wpAnyH_take (i := 7) (v := ?vA7) rfl (by kernel_rfl) (by kernel_rfl) (by kernel_rfl) (fun _ _ _ h => h) (Or.inl ⟨by rfl, ?yA7⟩) hHeld ?rA7
          case yA7 => (intro W hSw; simp only [List.getElem_toArray, List.getElem_cons_succ, List.getElem_cons_zero]; go_simp; try (with_reducible rfl))
          simp only [List.getElem_toArray, List.getElem_cons_succ, List.getElem_cons_zero, Act.put, List.setIfInBounds_toArray, List.set_cons_zero, List.set_cons_succ]
          refine wpAnyH_take (i := 8) (v := ?vA8) rfl (by kernel_rfl) (by kernel_rfl) (by kernel_rfl) (fun _ _ _ h => h) (Or.inl ⟨by rfl, ?yA8⟩) hHeld ?rA8
          case yA8 => (intro W hSw; simp only [List.getElem_toArray, List.getElem_cons_succ, List.getElem_cons_zero]; go_simp; try (with_reducible rfl))
          simp only [List.getElem_toArray, List.getElem_cons_succ, List.getElem_cons_zero, Act.put, List.setIfInBounds_toArray, List.set_cons_zero, List.set_cons_succ]
          refine wpAnyH_take (i := 9) (v := ?vA9) rfl (by kernel_rfl) (by kernel_rfl) (by kernel_rfl) (fun _ _ _ h => h) (Or.inl ⟨by rfl, ?yA9⟩) hHeld ?rA9
          case yA9 => (intro W hSw; simp only [List.getElem_toArray, List.getElem_cons_succ, List.getElem_cons_zero]; go_simp; try (with_reducible rfl))
          simp only [List.getElem_toArray, List.getElem_cons_succ, List.getElem_cons_zero, Act.put, List.setIfInBounds_toArray, List.set_cons_zero, List.set_cons_succ]
          refine wpAnyH_ready (rs := [10]) (by kernel_rfl) (by simp) (AllReadyH.cons rfl (fun K hK => ?_) AllReadyH.nil)
          simp only [List.getElem_toArray, List.getElem_cons_succ, List.getElem_cons_zero]
          go_simp
          obtain ⟨wi, hwi⟩ : ∃ v, v = wg.alloc (.cells #[.int .i64 0, .int .i64 0, .int .i64 0, .int .i64 0] 26) := ⟨_, rfl⟩
          rw [← hwi]
          have BI := Lib.hid (show Below wr.heap.size wr wi by rw [hwi]; exact (BG.out).alloc BG.out.size _)
          have IB := Lib.hid (show wi.heap[wg.heap.size]? = some (.cells (rC ⟨0, 0, 0, 0⟩) 26 (0, 0)) by rw [hwi]; exact (MapKept.heap_alloc wg _).1)
          clear hwi
          refine hK.out _ _ (by exact HS.out _ BI.out) (fun hHeld1 => ?_)
          clear hK K hHeld
          have hHeld := hHeld1; clear hHeld1
          try simp only [List.getElem_toArray, List.getElem_cons_succ, List.getElem_cons_zero, Act.put, List.setIfInBounds_toArray, List.set_cons_zero, List.set_cons_succ]
          refine wpAnyH_ready (rs := [11]) (by kernel_rfl) (by simp) (AllReadyH.cons rfl (fun K hK => ?_) AllReadyH.nil)
          simp only [List.getElem_toArray, List.getElem_cons_succ, List.getElem_cons_zero]
          obtain ⟨i0', i1, i2, i3, i4⟩ := rc_cells IB.out
          go_simp
          have SB := Lib.hid (setF_below BI.out (b := wg.heap.size) BG.out.size cc)
          unfold setF at SB
          refine hK.out _ _ (by exact HS.out _ SB.out) (fun hHeld1 => ?_)
          clear hK K hHeld i0' i1 i2 i3 i4
          have hHeld := hHeld1; clear hHeld1
          try simp only [List.getElem_toArray, List.getElem_cons_succ, List.getElem_cons_zero, Act.put, List.setIfInBounds_toArray, List.set_cons_zero, List.set_cons_succ]
          refine wpAnyH_take (i := 12) (v := ?vA212) rfl (by kernel_rfl) (by kernel_rfl) (by kernel_rfl) (fun _ _ _ h => h) (Or.inl ⟨by rfl, ?yA212⟩) hHeld ?rA212
          case yA212 => (intro W hSw; simp only [List.getElem_toArray, List.getElem_cons_succ, List.getElem_cons_zero]; go_simp; try (with_reducible rfl))
          simp only [List.getElem_toArray, List.getElem_cons_succ, List.getElem_cons_zero, Act.put, List.setIfInBounds_toArray, List.set_cons_zero, List.set_cons_succ]
          refine wpAnyH_done (by kernel_rfl) ?_ _
          go_wp2_with fail
          go_meet
          case rel => exact ⟨rfl, SB.out⟩
        · simp only [List.getElem_toArray, List.getElem_cons_succ, List.getElem_cons_zero]
          go_simp
          obtain ⟨wi, hwi⟩ : ∃ v, v = (wr.alloc (.cells #[.int .i64 0, .int .i64 0, .int .i64 0, .int .i64 0] 26)).drew := ⟨_, rfl⟩
          rw [← hwi]
          have BI := Lib.hid (show Below wr.heap.size wr wi by rw [hwi]; exact ((Below.refl _ _).alloc (Nat.le_refl _) _).drew)
          have IB := Lib.hid (show wi.heap[wr.heap.size]? = some (.cells (rC ⟨0, 0, 0, 0⟩) 26 (0, 0)) by rw [hwi]; exact (MapKept.heap_alloc wr _).1)
          clear hwi
          refine hK.out _ _ (by exact HS.out _ BI.out) (fun hHeld1 => ?_)
          clear hK K hHeld
          have hHeld := hHeld1; clear hHeld1
          try simp only [List.getElem_toArray, List.getElem_cons_succ, List.getElem_cons_zero, Act.put, List.setIfInBounds_toArray, List.set_cons_zero, List.set_cons_succ]
          refine wpAnyH_ready (rs := [6]) (by kernel_rfl) (by simp) (AllReadyH.cons rfl (fun K hK => ?_) AllReadyH.nil)
          simp only [List.getElem_toArray, List.getElem_cons_succ, List.getElem_cons_zero]
          go_simp
          go_at_call 29
          refine Calls.mono (CG.out _) ?_
          rintro e wg ⟨⟨cc, rfl⟩, hbg⟩
          have BG := Lib.hid (hHeld.2.2.2.2.2.2.2.2.trans (hbg.mono hHeld.2.2.2.2.2.2.2.2.size))
          have IBG := Lib.hid ((hbg.block _ (Array.getElem?_eq_some_iff.1 IB.out).1).trans IB.out)
          refine hK.out _ _ (by exact HS.out _ BG.out) (fun hHeld1 => ?_)
          clear hK K hHeld hbg
          have hHeld := hHeld1; clear hHeld1
          try simp only [List.getElem_toArray, List.getElem_cons_succ, List.getElem_cons_zero, Act.put, List.setIfInBounds_toArray, List.set_cons_zero, List.set_cons_succ]
          refine wpAnyH_take (i := 7) (v := ?vB7) rfl (by kernel_rfl) (by kernel_rfl) (by kernel_rfl) (fun _ _ _ h => h) (Or.inl ⟨by rfl, ?yB7⟩) hHeld ?rB7
          case yB7 => (intro W hSw; simp only [List.getElem_toArray, List.getElem_cons_succ, List.getElem_cons_zero]; go_simp; try (with_reducible rfl))
          simp only [List.getElem_toArray, List.getElem_cons_succ, List.getElem_cons_zero, Act.put, List.setIfInBounds_toArray, List.set_cons_zero, List.set_cons_succ]
          refine wpAnyH_take (i := 8) (v := ?vB8) rfl (by kernel_rfl) (by kernel_rfl) (by kernel_rfl) (fun _ _ _ h => h) (Or.inl ⟨by rfl, ?yB8⟩) hHeld ?rB8
          case yB8 => (intro W hSw; simp only [List.getElem_toArray, List.getElem_cons_succ, List.getElem_cons_zero]; go_simp; try (with_reducible rfl))
          simp only [List.getElem_toArray, List.getElem_cons_succ, List.getElem_cons_zero, Act.put, List.setIfInBounds_toArray, List.set_cons_zero, List.set_cons_succ]
          refine wpAnyH_take (i := 9) (v := ?vB9) rfl (by kernel_rfl) (by kernel_rfl) (by kernel_rfl) (fun _ _ _ h => h) (Or.inl ⟨by rfl, ?yB9⟩) hHeld ?rB9
          case yB9 => (intro W hSw; simp only [List.getElem_toArray, List.getElem_cons_succ, List.getElem_cons_zero]; go_simp; try (with_reducible rfl))
          simp only [List.getElem_toArray, List.getElem_cons_succ, List.getElem_cons_zero, Act.put, List.setIfInBounds_toArray, List.set_cons_zero, List.set_cons_succ]
          refine wpAnyH_ready (rs := [11]) (by kernel_rfl) (by simp) (AllReadyH.cons rfl (fun K hK => ?_) AllReadyH.nil)
          simp only [List.getElem_toArray, List.getElem_cons_succ, List.getElem_cons_zero]
          obtain ⟨i0', i1, i2, i3, i4⟩ := rc_cells IBG.out
          go_simp
          have SB := Lib.hid (setF_below BG.out (b := wr.heap.size) (Nat.le_refl _) cc)
          unfold setF at SB
          refine hK.out _ _ (by exact HS.out _ SB.out) (fun hHeld1 => ?_)
          clear hK K hHeld i0' i1 i2 i3 i4
          have hHeld := hHeld1; clear hHeld1
          try simp only [List.getElem_toArray, List.getElem_cons_succ, List.getElem_cons_zero, Act.put, List.setIfInBounds_toArray, List.set_cons_zero, List.set_cons_succ]
          refine wpAnyH_take (i := 12) (v := ?vB212) rfl (by kernel_rfl) (by kernel_rfl) (by kernel_rfl) (fun _ _ _ h => h) (Or.inl ⟨by rfl, ?yB212⟩) hHeld ?rB212
          case yB212 => (intro W hSw; simp only [List.getElem_toArray, List.getElem_cons_succ, List.getElem_cons_zero]; go_simp; try (with_reducible rfl))
          simp only [List.getElem_toArray, List.getElem_cons_succ, List.getElem_cons_zero, Act.put, List.setIfInBounds_toArray, List.set_cons_zero, List.set_cons_succ]
          refine wpAnyH_done (by kernel_rfl) ?_ _
          go_wp2_with fail
          go_meet
          case rel => exact ⟨rfl, SB.out⟩

      obtain ⟨rfl, hbc⟩ := hcut
      have hbvc : Below v.heap.size v wc := HB.out.trans (hbc.mono HB.out.size)
      have BC := Lib.hid hbvc
      have OC := Lib.hid (show wc.ownsRow v.heap.size 3 1 u5 (lfd (l.take j) r).length ((lfd (l.take j) r).map (Value.int .i64)) from HO.out.kept (row := none) ⟨hbc.os, hbc.tape, hbc.output, hbc.size, fun k hk _ => hbc.block k hk⟩ (by cases u5.ownBlock <;> simp))
      clear hbc hbvc HS
      cases mb with
      | false =>
        have ST := Lib.hid (STN.out rfl)
        go_wp2_with fail
        go_roundw
        case rel => first | exact ⟨j + 1, by go_num, HJN.out, by rw [ST.out]; exact OC.out, by rw [ST.out]; exact HNIL.out, BC.out⟩ | ((repeat apply Exists.intro); exact ⟨⟨j + 1, by go_num, HJN.out, by rw [ST.out]; exact OC.out, by rw [ST.out]; exact HNIL.out, BC.out⟩, rfl⟩)
        case measure => simp [intOf]; omega
      | true =>
        have ST := Lib.hid (STY.out rfl)
        have HLN := Lib.hid (show (lfd (l.take j) r).length ≤ 10000 from Nat.le_trans (lfd_len _ _) (by rw [List.length_take]; omega))
        have idc : ∀ q, (wc.drewN q).cell? ⟨a1, j * 5 + 4, none⟩ = some (.int .i64 id) := fun q => by
          have h7 := BV.out.trans (BC.out.mono BV.out.size)
          exact cid.out _ ⟨h7.os, h7.tape, h7.output, h7.size, h7.block⟩
        obtain ⟨zs, hzs⟩ : ∃ zs, zs = lfd (l.take j) r := ⟨_, rfl⟩
        rw [← hzs] at OC HNIL ST HLN
        have HZS := Lib.hid hzs
        obtain ⟨m, hm⟩ : ∃ m, m = zs.length := ⟨_, rfl⟩
        have HMM := Lib.hid hm
        rw [← hm] at OC HLN
        have hm10 : m ≤ 10000 := HLN.out
        clear hzs hm STY STN HO
        by_cases h0 : zs = []
        · obtain rfl := HNIL.out h0
          obtain rfl : m = 0 := by rw [HMM.out, h0]; rfl
          go_wp2_with fail
          have HIN := Lib.hid (show insI id zs = [id] by rw [h0]; rfl)
          have HZ0 := Lib.hid h0
          clear h0 HNIL
          go_loopw [9] (fun vk wk => FnR zs id wc vk wk) (fun vk _ => 0)
          case atStart => exact ⟨0, 0, rfl, Nat.zero_le _, fun i _ hi => absurd hi (Nat.not_lt_zero _), rfl⟩
          case round =>
            obtain ⟨k, q, rfl, hk, hks, hwk⟩ := hrel
            have hk00 : k = 0 := by rw [HZ0.out] at hk; simpa using hk
            subst hk00
            have HWK := Lib.hid hwk
            clear hks hk hwk
            go_wp2_with fail
            go_big_quiet (fail)
            obtain ⟨w5, hw5⟩ : ∃ v, v = wr.drewN nq := ⟨_, rfl⟩
            have hw5c : w5 = wc.drewN (q + nq) := by rw [hw5, HWK.out, World.drewN_drewN]
            have B5 := Lib.hid (show Below v.heap.size v w5 by rw [hw5c]; exact ⟨BC.out.os, BC.out.tape, BC.out.output, BC.out.size, BC.out.block⟩)
            rw [← hw5]
            clear hw5 hw5c
            obtain ⟨w6, hw6⟩ : ∃ v, v = w5.alloc (.cells #[] 3) := ⟨_, rfl⟩
            have E6 := Lib.hid (show w6.ownsRow v.heap.size 3 1 (.slice (some ⟨w5.heap.size, 0, none⟩) 0 0) 0 [] by rw [hw6]; exact own_base (own_emptyI w5) B5.out.size)
            have B6 := Lib.hid (show Below v.heap.size v w6 by rw [hw6]; exact B5.out.alloc B5.out.size _)
            have h56 : w6.heap.size = w5.heap.size + 1 := by rw [hw6]; simp
            have HW6 := Lib.hid hw6
            have id6 := cid.out _ (BV.out.trans (B6.out.mono BV.out.size))
            obtain ⟨w8, hw8⟩ : ∃ v, v = w6.alloc (.cells #[.int .i64 id] 3) := ⟨_, rfl⟩
            have R8 := Lib.hid (show w8.ownsRow v.heap.size 3 1 (.slice (some ⟨w5.heap.size, 0, none⟩) 0 0) 0 [] by rw [hw8]; exact E6.out.alloc _)
            have B8 := Lib.hid (show Below v.heap.size v w8 by rw [hw8]; exact B6.out.alloc B6.out.size _)
            have N8 := Lib.hid (show ∀ i u, ([Value.int .i64 id])[i]? = some u → w8.cell? ((⟨w5.heap.size + 1, 0, none⟩ : Addr).add i) = some u by rw [hw8, ← h56]; exact cell_one_new _ _ _)
            have HW8 := Lib.hid hw8
            clear hw6 hw8
            go_wp2_with (first
              | (at_builtin; rw [← HW6.out]; refine wpList_append_own_none rfl _ _ 49 rfl v.heap.size 3 i0 1 Tryz.underlying49 hi0 _ _ _ rfl E6.out rfl ?_)
              | (at_builtin; rw [← HW8.out]; refine wpList_append_own_at _ rfl _ _ 49 rfl v.heap.size 3 i0 (.int .i64 0) 1 8 Tryz.underlying49 hi0 hz0 hz1 hz2 rfl (by decide) _ _ _ rfl R8.out ⟨w5.heap.size + 1, 0, none⟩ 1 1 [.int .i64 id] rfl rfl N8.out (oneL [id]) (by unfold maxLen; omega) (by omega) B8.out.size ?_))
            intro v9 w9 hown9 hg9 hn9 ho9
            have R9 := Lib.hid hown9
            have B9 := Lib.hid (B8.out.grown hg9 B8.out.size (fun q hq => (R8.out.lt q hq).1))
            clear hg9 ho9 hown9 hn9
            go_wp2_with (first
              | (at_builtin; refine wpList_append_own_none rfl _ _ 49 rfl v.heap.size 3 i0 1 Tryz.underlying49 hi0 _ _ _ rfl R9.out rfl ?_))
            have FIN := Lib.hid (show w9.ownsRow v.heap.size 3 1 v9 (lfd (l.take (j + 1)) r).length ((lfd (l.take (j + 1)) r).map (Value.int .i64)) from by
              rw [ST.out, HIN.out]
              exact R9.out)
            have FNE := Lib.hid (show lfd (l.take (j + 1)) r = [] → v9 = .slice none 0 0 from fun h => by
              rw [ST.out, HIN.out] at h
              simp at h)
            go_wp2_with fail
            go_roundw
            case rel => first | exact ⟨j + 1, by go_num, HJN.out, FIN.out, FNE.out, B9.out⟩ | ((repeat apply Exists.intro); exact ⟨⟨j + 1, by go_num, HJN.out, FIN.out, FNE.out, B9.out⟩, rfl⟩)
            case measure => simp [intOf]; omega

        · have hmp : 0 < m := by rw [HMM.out]; exact List.length_pos_iff.2 h0
          obtain ⟨g, cap, hvo, hnc, hcap⟩ : ∃ g cap, u5 = .slice (some ⟨g, 0, none⟩) m cap ∧ m ≤ cap ∧ cap ≤ maxLen := by
            rcases OC.out.2 with ⟨_, h⟩ | ⟨g2, c2, cur, e, _, _, h5, h6, _⟩
            · omega
            · exact ⟨g2, c2, e, h5, h6⟩
          subst hvo
          clear h0 HNIL
          go_wp2_with fail
          go_loopw [9] (fun vk wk => FnR zs id wc vk wk) (fun vk _ => m - (intOf vk).toNat)
          case atStart => exact ⟨0, 0, rfl, Nat.zero_le _, fun i _ hi => absurd hi (Nat.not_lt_zero _), rfl⟩
          case round =>
            obtain ⟨k, q, rfl, hk, hks, hwk⟩ := hrel
            have HKS := Lib.hid hks
            have HWK := Lib.hid hwk
            rw [← HMM.out] at hk
            have idk : ∀ q2, (wr.drewN q2).cell? ⟨a1, j * 5 + 4, none⟩ = some (.int .i64 id) := fun q2 => by rw [hwk]; exact idc (q + q2)
            have idk0 : wr.cell? ⟨a1, j * 5 + 4, none⟩ = some (.int .i64 id) := by rw [hwk]; exact idc q
            by_cases hkm : k < m
            · have hkz : (k : Int) < (m : Int) := by omega
              have hk0 : (0 : Int) ≤ (k : Int) := by omega
              have hkl : k < zs.length := by rw [← HMM.out]; exact hkm
              obtain ⟨z, hz⟩ : ∃ z, z = zs[k] := ⟨_, rfl⟩
              have ck : wr.cell? ⟨g, k, none⟩ = some (.int .i64 z) := by
                rw [hwk]
                have := OC.out.cellAt k (by omega)
                rw [List.getElem?_map, List.getElem?_eq_getElem hkl] at this
                rw [hz]
                exact this
              by_cases hzi : z < id
              · have HZI := Lib.hid (show ∀ (i : Nat) (hi : i < zs.length), i < k + 1 → zs[i] < id from fun i hi h => by
                  rcases Nat.lt_or_ge i k with h1 | h1
                  · exact hks i hi h1
                  · have : i = k := by omega
                    subst this
                    rw [← hz]
                    exact hzi)
                clear hks hwk hz hkl
                go_wp2_with fail
                go_big_quiet (fail)
                go_wp2_with fail
                go_roundw
                case rel => first | exact ⟨k + 1, q + nq, by go_num, by have := HMM.out; omega, HZI.out, by rw [HWK.out, World.drewN_drewN]⟩ | ((repeat apply Exists.intro); exact ⟨⟨k + 1, q + nq, by go_num, by have := HMM.out; omega, HZI.out, by rw [HWK.out, World.drewN_drewN]⟩, rfl⟩)
                case measure => simp [intOf]; omega
              · have dzi : decide (z < id) = false := decide_eq_false hzi
                have HIN := Lib.hid (insI_at id zs k (by have := HMM.out; omega) HKS.out (fun _ => by rw [← hz]; exact hzi))
                clear hks hwk hz hkl
                go_wp2_with fail
                go_big_quiet (fail)
                obtain ⟨w5, hw5⟩ : ∃ v, v = wr.drewN nq := ⟨_, rfl⟩
                have hw5c : w5 = wc.drewN (q + nq) := by rw [hw5, HWK.out, World.drewN_drewN]
                have B5 := Lib.hid (show Below v.heap.size v w5 by rw [hw5c]; exact ⟨BC.out.os, BC.out.tape, BC.out.output, BC.out.size, BC.out.block⟩)
                have O5 := Lib.hid (show w5.ownsRow v.heap.size 3 1 (.slice (some ⟨g, 0, none⟩) m cap) m (zs.map (Value.int .i64)) by rw [hw5c]; exact OC.out)
                have hg5 : g < w5.heap.size := (O5.out.lt g rfl).2
                rw [← hw5]
                clear hw5 hw5c idk idk0
                obtain ⟨w6, hw6⟩ : ∃ v, v = w5.alloc (.cells #[] 3) := ⟨_, rfl⟩
                have E6 := Lib.hid (show w6.ownsRow v.heap.size 3 1 (.slice (some ⟨w5.heap.size, 0, none⟩) 0 0) 0 [] by rw [hw6]; exact own_base (own_emptyI w5) B5.out.size)
                have O6 := Lib.hid (show w6.ownsRow v.heap.size 3 1 (.slice (some ⟨g, 0, none⟩) m cap) m (zs.map (Value.int .i64)) by rw [hw6]; exact O5.out.alloc _)
                have B6 := Lib.hid (show Below v.heap.size v w6 by rw [hw6]; exact B5.out.alloc B5.out.size _)
                have h56 : w6.heap.size = w5.heap.size + 1 := by rw [hw6]; simp
                have HW6 := Lib.hid hw6
                obtain ⟨X7, hX7⟩ : ∃ X7, X7 = (zs.take k).map (Value.int .i64) := ⟨_, rfl⟩
                have HX7 := Lib.hid hX7
                have NW6 := Lib.hid (show ∀ i u, X7[i]? = some u → w6.cell? ((⟨g, 0, none⟩ : Addr).add i) = some u from fun i u hu => by
                  rw [hX7] at hu
                  have hi := (List.getElem?_eq_some_iff.1 hu).1
                  rw [List.length_map, List.length_take] at hi
                  rw [addr_at, Nat.zero_add, O6.out.cellAt i (by omega)]
                  rw [List.getElem?_map, List.getElem?_take, if_pos (by omega)] at hu
                  rw [List.getElem?_map]
                  exact hu)
                have LN6 := Lib.hid (show X7.length = k * 1 by rw [hX7, List.length_map, List.length_take]; have := HMM.out; omega)
                have ON6 := Lib.hid (show ∀ u ∈ X7, u.oneCell' = true by rw [hX7]; exact oneL _)
                clear hw6 hX7
                go_wp2_with (first
                  | (at_builtin; rw [← HW6.out]; refine wpList_append_own_at _ rfl _ _ 49 rfl v.heap.size 3 i0 (.int .i64 0) 1 8 Tryz.underlying49 hi0 hz0 hz1 hz2 rfl (by decide) _ _ _ rfl E6.out ⟨g, 0, none⟩ k cap X7 rfl LN6.out NW6.out ON6.out (by unfold maxLen; omega) (by omega) B6.out.size ?_))
                intro v7 w7 hown7 hg7 _ ho7
                have R7 := Lib.hid hown7
                have hlt7 : ∀ q, (Value.slice (some ⟨w5.heap.size, 0, none⟩) 0 0).ownBlock = some q → v.heap.size ≤ q := fun q hq => by simp [Value.ownBlock] at hq; subst hq; exact B5.out.size
                have B7 := Lib.hid (B6.out.grown hg7 B6.out.size hlt7)
                have O7 := Lib.hid (O6.out.kept hg7 (by right; simp [Value.ownBlock]; omega))
                have hv7 : v7.ownBlock = some w5.heap.size ∨ v7.ownBlock = some (w5.heap.size + 1) := ho7
                have HV7 := Lib.hid hv7
                have hs7 := hg7.size
                have BW7 := Lib.hid (BV.out.trans (B7.out.mono BV.out.size))
                have id7 := cid.out _ BW7.out
                obtain ⟨w8, hw8⟩ : ∃ v, v = w7.alloc (.cells #[.int .i64 id] 3) := ⟨_, rfl⟩
                have R8 := Lib.hid (show w8.ownsRow v.heap.size 3 1 v7 k X7 by rw [hw8]; exact R7.out.alloc _)
                have O8 := Lib.hid (show w8.ownsRow v.heap.size 3 1 (.slice (some ⟨g, 0, none⟩) m cap) m (zs.map (Value.int .i64)) by rw [hw8]; exact O7.out.alloc _)
                have B8 := Lib.hid (show Below v.heap.size v w8 by rw [hw8]; exact B7.out.alloc B7.out.size _)
                have N8 := Lib.hid (show ∀ i u, ([Value.int .i64 id])[i]? = some u → w8.cell? ((⟨w7.heap.size, 0, none⟩ : Addr).add i) = some u by rw [hw8]; exact cell_one_new _ _ _)
                have HW8 := Lib.hid hw8
                clear hg7 ho7 hown7 hw8 hlt7 hv7
                go_wp2_with (first
                  | (at_builtin; rw [← HW8.out]; refine wpList_append_own_at _ rfl _ _ 49 rfl v.heap.size 3 i0 (.int .i64 0) 1 8 Tryz.underlying49 hi0 hz0 hz1 hz2 rfl (by decide) _ _ _ rfl R8.out ⟨w7.heap.size, 0, none⟩ 1 1 [.int .i64 id] rfl rfl N8.out (oneL [id]) (by unfold maxLen; omega) (by omega) B8.out.size ?_))
                intro v9 w9 hown9 hg9 _ ho9
                have R9 := Lib.hid hown9
                have B9 := Lib.hid (B8.out.grown hg9 B8.out.size (fun q hq => (R8.out.lt q hq).1))
                have O9 := Lib.hid (O8.out.kept hg9 (by right; rcases HV7.out with e | e <;> rw [e] <;> simp [Value.ownBlock] <;> omega))
                clear hg9 ho9 hown9 id7
                have N9 := Lib.hid (show ∀ i u, (((zs.drop k).map (Value.int .i64)))[i]? = some u → w9.cell? ((⟨g, k, none⟩ : Addr).add i) = some u from fun i u hu => by
                  have hi := (List.getElem?_eq_some_iff.1 hu).1
                  rw [List.length_map, List.length_drop] at hi
                  rw [addr_at, O9.out.cellAt (k + i) (by have := HMM.out; omega)]
                  rw [List.getElem?_map, List.getElem?_drop] at hu
                  rw [List.getElem?_map]
                  exact hu)
                obtain ⟨X9, hX9⟩ : ∃ X9, X9 = (zs.drop k).map (Value.int .i64) := ⟨_, rfl⟩
                rw [← hX9] at N9
                have HX9 := Lib.hid hX9
                have LN9 := Lib.hid (show X9.length = (m - k) * 1 by rw [hX9, List.length_map, List.length_drop]; have := HMM.out; omega)
                have ON9 := Lib.hid (show ∀ u ∈ X9, u.oneCell' = true by rw [hX9]; exact oneL _)
                clear hX9
                go_wp2_with (first
                  | (at_builtin; refine wpList_append_own_at _ rfl _ _ 49 rfl v.heap.size 3 i0 (.int .i64 0) 1 8 Tryz.underlying49 hi0 hz0 hz1 hz2 rfl (by decide) _ _ _ rfl R9.out ⟨g, k, none⟩ (m - k) (cap - k) X9 rfl LN9.out N9.out ON9.out (by unfold maxLen; omega) (by omega) B9.out.size ?_))
                intro v11 w11 hown11 hg11 _ ho11
                have B11 := Lib.hid (B9.out.grown hg11 B9.out.size (fun q hq => (R9.out.lt q hq).1))
                have R11 := Lib.hid hown11
                clear hown11 hg11 ho11
                have FIN := Lib.hid (show w11.ownsRow v.heap.size 3 1 v11 (lfd (l.take (j + 1)) r).length ((lfd (l.take (j + 1)) r).map (Value.int .i64)) from by
                  have h1 := R11.out
                  rw [ST.out, HIN.out]
                  rw [HX7.out, HX9.out] at h1
                  have e1 : (zs.take k ++ id :: zs.drop k).length = k + 1 + (m - k) := by
                    have := HMM.out
                    rw [List.length_append, List.length_cons, List.length_take, List.length_drop]
                    omega
                  have e2 : (zs.take k ++ id :: zs.drop k).map (Value.int .i64) = (zs.take k).map (Value.int .i64) ++ Value.int .i64 id :: (zs.drop k).map (Value.int .i64) := by simp
                  rw [e1, e2]
                  exact h1)
                have FNE := Lib.hid (show lfd (l.take (j + 1)) r = [] → v11 = .slice none 0 0 from fun h => by
                  rw [ST.out, HIN.out] at h
                  simp at h)
                go_wp2_with fail
                go_roundw
                case rel => first | exact ⟨j + 1, by go_num, HJN.out, FIN.out, FNE.out, B11.out⟩ | ((repeat apply Exists.intro); exact ⟨⟨j + 1, by go_num, HJN.out, FIN.out, FNE.out, B11.out⟩, rfl⟩)
                case measure => simp [intOf]; omega

            · have hkz : ¬ (k : Int) < (m : Int) := by omega
              have HIN := Lib.hid (insI_at id zs k (by have := HMM.out; omega) HKS.out (fun h => by have := HMM.out; omega))
              have hkme : k = m := by omega
              clear hks hwk hkm
              subst hkme
              by_cases hcm : cap = k
              · have hcm2 : k = cap := hcm.symm
                clear hcm
                subst hcm2
                go_wp2_with fail
                go_big_quiet (fail)
                obtain ⟨w5, hw5⟩ : ∃ v, v = wr.drewN nq := ⟨_, rfl⟩
                have hw5c : w5 = wc.drewN (q + nq) := by rw [hw5, HWK.out, World.drewN_drewN]
                have B5 := Lib.hid (show Below v.heap.size v w5 by rw [hw5c]; exact ⟨BC.out.os, BC.out.tape, BC.out.output, BC.out.size, BC.out.block⟩)
                have O5 := Lib.hid (show w5.ownsRow v.heap.size 3 1 (.slice (some ⟨g, 0, none⟩) k k) k (zs.map (Value.int .i64)) by rw [hw5c]; exact OC.out)
                have hg5 : g < w5.heap.size := (O5.out.lt g rfl).2
                rw [← hw5]
                clear hw5 hw5c idk idk0
                obtain ⟨w6, hw6⟩ : ∃ v, v = w5.alloc (.cells #[] 3) := ⟨_, rfl⟩
                have E6 := Lib.hid (show w6.ownsRow v.heap.size 3 1 (.slice (some ⟨w5.heap.size, 0, none⟩) 0 0) 0 [] by rw [hw6]; exact own_base (own_emptyI w5) B5.out.size)
                have O6 := Lib.hid (show w6.ownsRow v.heap.size 3 1 (.slice (some ⟨g, 0, none⟩) k k) k (zs.map (Value.int .i64)) by rw [hw6]; exact O5.out.alloc _)
                have B6 := Lib.hid (show Below v.heap.size v w6 by rw [hw6]; exact B5.out.alloc B5.out.size _)
                have h56 : w6.heap.size = w5.heap.size + 1 := by rw [hw6]; simp
                have HW6 := Lib.hid hw6
                obtain ⟨X7, hX7⟩ : ∃ X7, X7 = (zs.take k).map (Value.int .i64) := ⟨_, rfl⟩
                have HX7 := Lib.hid hX7
                have NW6 := Lib.hid (show ∀ i u, X7[i]? = some u → w6.cell? ((⟨g, 0, none⟩ : Addr).add i) = some u from fun i u hu => by
                  rw [hX7] at hu
                  have hi := (List.getElem?_eq_some_iff.1 hu).1
                  rw [List.length_map, List.length_take] at hi
                  rw [addr_at, Nat.zero_add, O6.out.cellAt i (by omega)]
                  rw [List.getElem?_map, List.getElem?_take, if_pos (by omega)] at hu
                  rw [List.getElem?_map]
                  exact hu)
                have LN6 := Lib.hid (show X7.length = k * 1 by rw [hX7, List.length_map, List.length_take]; have := HMM.out; omega)
                have ON6 := Lib.hid (show ∀ u ∈ X7, u.oneCell' = true by rw [hX7]; exact oneL _)
                clear hw6 hX7
                go_wp2_with (first
                  | (at_builtin; rw [← HW6.out]; refine wpList_append_own_at _ rfl _ _ 49 rfl v.heap.size 3 i0 (.int .i64 0) 1 8 Tryz.underlying49 hi0 hz0 hz1 hz2 rfl (by decide) _ _ _ rfl E6.out ⟨g, 0, none⟩ k k X7 rfl LN6.out NW6.out ON6.out (by unfold maxLen; omega) (by omega) B6.out.size ?_))
                intro v7 w7 hown7 hg7 _ ho7
                have R7 := Lib.hid hown7
                have hlt7 : ∀ q, (Value.slice (some ⟨w5.heap.size, 0, none⟩) 0 0).ownBlock = some q → v.heap.size ≤ q := fun q hq => by simp [Value.ownBlock] at hq; subst hq; exact B5.out.size
                have B7 := Lib.hid (B6.out.grown hg7 B6.out.size hlt7)
                have O7 := Lib.hid (O6.out.kept hg7 (by right; simp [Value.ownBlock]; omega))
                have hv7 : v7.ownBlock = some w5.heap.size ∨ v7.ownBlock = some (w5.heap.size + 1) := ho7
                have HV7 := Lib.hid hv7
                have hs7 := hg7.size
                have BW7 := Lib.hid (BV.out.trans (B7.out.mono BV.out.size))
                have id7 := cid.out _ BW7.out
                obtain ⟨w8, hw8⟩ : ∃ v, v = w7.alloc (.cells #[.int .i64 id] 3) := ⟨_, rfl⟩
                have R8 := Lib.hid (show w8.ownsRow v.heap.size 3 1 v7 k X7 by rw [hw8]; exact R7.out.alloc _)
                have O8 := Lib.hid (show w8.ownsRow v.heap.size 3 1 (.slice (some ⟨g, 0, none⟩) k k) k (zs.map (Value.int .i64)) by rw [hw8]; exact O7.out.alloc _)
                have B8 := Lib.hid (show Below v.heap.size v w8 by rw [hw8]; exact B7.out.alloc B7.out.size _)
                have N8 := Lib.hid (show ∀ i u, ([Value.int .i64 id])[i]? = some u → w8.cell? ((⟨w7.heap.size, 0, none⟩ : Addr).add i) = some u by rw [hw8]; exact cell_one_new _ _ _)
                have HW8 := Lib.hid hw8
                clear hg7 ho7 hown7 hw8 hlt7 hv7
                go_wp2_with (first
                  | (at_builtin; rw [← HW8.out]; refine wpList_append_own_at _ rfl _ _ 49 rfl v.heap.size 3 i0 (.int .i64 0) 1 8 Tryz.underlying49 hi0 hz0 hz1 hz2 rfl (by decide) _ _ _ rfl R8.out ⟨w7.heap.size, 0, none⟩ 1 1 [.int .i64 id] rfl rfl N8.out (oneL [id]) (by unfold maxLen; omega) (by omega) B8.out.size ?_))
                intro v9 w9 hown9 hg9 _ ho9
                have R9 := Lib.hid hown9
                have B9 := Lib.hid (B8.out.grown hg9 B8.out.size (fun q hq => (R8.out.lt q hq).1))
                have O9 := Lib.hid (O8.out.kept hg9 (by right; rcases HV7.out with e | e <;> rw [e] <;> simp [Value.ownBlock] <;> omega))
                clear hg9 ho9 hown9 id7
                have N9 := Lib.hid (show ∀ i u, (((zs.drop k).map (Value.int .i64)))[i]? = some u → w9.cell? ((⟨g, k, none⟩ : Addr).add i) = some u from fun i u hu => by
                  have hi := (List.getElem?_eq_some_iff.1 hu).1
                  rw [List.length_map, List.length_drop] at hi
                  rw [addr_at, O9.out.cellAt (k + i) (by have := HMM.out; omega)]
                  rw [List.getElem?_map, List.getElem?_drop] at hu
                  rw [List.getElem?_map]
                  exact hu)
                obtain ⟨X9, hX9⟩ : ∃ X9, X9 = (zs.drop k).map (Value.int .i64) := ⟨_, rfl⟩
                rw [← hX9] at N9
                have HX9 := Lib.hid hX9
                have LN9 := Lib.hid (show X9.length = (k - k) * 1 by rw [hX9, List.length_map, List.length_drop]; have := HMM.out; omega)
                have ON9 := Lib.hid (show ∀ u ∈ X9, u.oneCell' = true by rw [hX9]; exact oneL _)
                clear hX9
                go_wp2_with (first
                  | (at_builtin; refine wpList_append_own_at _ rfl _ _ 49 rfl v.heap.size 3 i0 (.int .i64 0) 1 8 Tryz.underlying49 hi0 hz0 hz1 hz2 rfl (by decide) _ _ _ rfl R9.out ⟨g, 0, none⟩ 0 0 X9 rfl (by rw [LN9.out]; simp) (fun i u hu => absurd (List.getElem?_eq_some_iff.1 hu).1 (by rw [LN9.out]; simp)) ON9.out (by unfold maxLen; omega) (by omega) B9.out.size ?_))
                intro v11 w11 hown11 hg11 _ ho11
                have B11 := Lib.hid (B9.out.grown hg11 B9.out.size (fun q hq => (R9.out.lt q hq).1))
                have R11 := Lib.hid hown11
                clear hown11 hg11 ho11
                have FIN := Lib.hid (show w11.ownsRow v.heap.size 3 1 v11 (lfd (l.take (j + 1)) r).length ((lfd (l.take (j + 1)) r).map (Value.int .i64)) from by
                  have h1 := R11.out
                  rw [ST.out, HIN.out]
                  rw [HX7.out, HX9.out] at h1
                  have e1 : (zs.take k ++ id :: zs.drop k).length = k + 1 := by
                    have := HMM.out
                    rw [List.length_append, List.length_cons, List.length_take, List.length_drop]
                    omega
                  have e2 : (zs.take k ++ id :: zs.drop k).map (Value.int .i64) = (zs.take k).map (Value.int .i64) ++ Value.int .i64 id :: (zs.drop k).map (Value.int .i64) := by simp
                  rw [e1, e2]
                  exact h1)
                have FNE := Lib.hid (show lfd (l.take (j + 1)) r = [] → v11 = .slice none 0 0 from fun h => by
                  rw [ST.out, HIN.out] at h
                  simp at h)
                go_wp2_with fail
                go_roundw
                case rel => first | exact ⟨j + 1, by go_num, HJN.out, FIN.out, FNE.out, B11.out⟩ | ((repeat apply Exists.intro); exact ⟨⟨j + 1, by go_num, HJN.out, FIN.out, FNE.out, B11.out⟩, rfl⟩)
                case measure => simp [intOf]; omega

              · have hcm2 : ¬ cap - k = 0 := by omega
                go_wp2_with fail
                go_big_quiet (fail)
                obtain ⟨w5, hw5⟩ : ∃ v, v = wr.drewN nq := ⟨_, rfl⟩
                have hw5c : w5 = wc.drewN (q + nq) := by rw [hw5, HWK.out, World.drewN_drewN]
                have B5 := Lib.hid (show Below v.heap.size v w5 by rw [hw5c]; exact ⟨BC.out.os, BC.out.tape, BC.out.output, BC.out.size, BC.out.block⟩)
                have O5 := Lib.hid (show w5.ownsRow v.heap.size 3 1 (.slice (some ⟨g, 0, none⟩) k cap) k (zs.map (Value.int .i64)) by rw [hw5c]; exact OC.out)
                have hg5 : g < w5.heap.size := (O5.out.lt g rfl).2
                rw [← hw5]
                clear hw5 hw5c idk idk0
                obtain ⟨w6, hw6⟩ : ∃ v, v = w5.alloc (.cells #[] 3) := ⟨_, rfl⟩
                have E6 := Lib.hid (show w6.ownsRow v.heap.size 3 1 (.slice (some ⟨w5.heap.size, 0, none⟩) 0 0) 0 [] by rw [hw6]; exact own_base (own_emptyI w5) B5.out.size)
                have O6 := Lib.hid (show w6.ownsRow v.heap.size 3 1 (.slice (some ⟨g, 0, none⟩) k cap) k (zs.map (Value.int .i64)) by rw [hw6]; exact O5.out.alloc _)
                have B6 := Lib.hid (show Below v.heap.size v w6 by rw [hw6]; exact B5.out.alloc B5.out.size _)
                have h56 : w6.heap.size = w5.heap.size + 1 := by rw [hw6]; simp
                have HW6 := Lib.hid hw6
                obtain ⟨X7, hX7⟩ : ∃ X7, X7 = (zs.take k).map (Value.int .i64) := ⟨_, rfl⟩
                have HX7 := Lib.hid hX7
                have NW6 := Lib.hid (show ∀ i u, X7[i]? = some u → w6.cell? ((⟨g, 0, none⟩ : Addr).add i) = some u from fun i u hu => by
                  rw [hX7] at hu
                  have hi := (List.getElem?_eq_some_iff.1 hu).1
                  rw [List.length_map, List.length_take] at hi
                  rw [addr_at, Nat.zero_add, O6.out.cellAt i (by omega)]
                  rw [List.getElem?_map, List.getElem?_take, if_pos (by omega)] at hu
                  rw [List.getElem?_map]
                  exact hu)
                have LN6 := Lib.hid (show X7.length = k * 1 by rw [hX7, List.length_map, List.length_take]; have := HMM.out; omega)
                have ON6 := Lib.hid (show ∀ u ∈ X7, u.oneCell' = true by rw [hX7]; exact oneL _)
                clear hw6 hX7
                go_wp2_with (first
                  | (at_builtin; rw [← HW6.out]; refine wpList_append_own_at _ rfl _ _ 49 rfl v.heap.size 3 i0 (.int .i64 0) 1 8 Tryz.underlying49 hi0 hz0 hz1 hz2 rfl (by decide) _ _ _ rfl E6.out ⟨g, 0, none⟩ k cap X7 rfl LN6.out NW6.out ON6.out (by unfold maxLen; omega) (by omega) B6.out.size ?_))
                intro v7 w7 hown7 hg7 _ ho7
                have R7 := Lib.hid hown7
                have hlt7 : ∀ q, (Value.slice (some ⟨w5.heap.size, 0, none⟩) 0 0).ownBlock = some q → v.heap.size ≤ q := fun q hq => by simp [Value.ownBlock] at hq; subst hq; exact B5.out.size
                have B7 := Lib.hid (B6.out.grown hg7 B6.out.size hlt7)
                have O7 := Lib.hid (O6.out.kept hg7 (by right; simp [Value.ownBlock]; omega))
                have hv7 : v7.ownBlock = some w5.heap.size ∨ v7.ownBlock = some (w5.heap.size + 1) := ho7
                have HV7 := Lib.hid hv7
                have hs7 := hg7.size
                have BW7 := Lib.hid (BV.out.trans (B7.out.mono BV.out.size))
                have id7 := cid.out _ BW7.out
                obtain ⟨w8, hw8⟩ : ∃ v, v = w7.alloc (.cells #[.int .i64 id] 3) := ⟨_, rfl⟩
                have R8 := Lib.hid (show w8.ownsRow v.heap.size 3 1 v7 k X7 by rw [hw8]; exact R7.out.alloc _)
                have O8 := Lib.hid (show w8.ownsRow v.heap.size 3 1 (.slice (some ⟨g, 0, none⟩) k cap) k (zs.map (Value.int .i64)) by rw [hw8]; exact O7.out.alloc _)
                have B8 := Lib.hid (show Below v.heap.size v w8 by rw [hw8]; exact B7.out.alloc B7.out.size _)
                have N8 := Lib.hid (show ∀ i u, ([Value.int .i64 id])[i]? = some u → w8.cell? ((⟨w7.heap.size, 0, none⟩ : Addr).add i) = some u by rw [hw8]; exact cell_one_new _ _ _)
                have HW8 := Lib.hid hw8
                clear hg7 ho7 hown7 hw8 hlt7 hv7
                go_wp2_with (first
                  | (at_builtin; rw [← HW8.out]; refine wpList_append_own_at _ rfl _ _ 49 rfl v.heap.size 3 i0 (.int .i64 0) 1 8 Tryz.underlying49 hi0 hz0 hz1 hz2 rfl (by decide) _ _ _ rfl R8.out ⟨w7.heap.size, 0, none⟩ 1 1 [.int .i64 id] rfl rfl N8.out (oneL [id]) (by unfold maxLen; omega) (by omega) B8.out.size ?_))
                intro v9 w9 hown9 hg9 _ ho9
                have R9 := Lib.hid hown9
                have B9 := Lib.hid (B8.out.grown hg9 B8.out.size (fun q hq => (R8.out.lt q hq).1))
                have O9 := Lib.hid (O8.out.kept hg9 (by right; rcases HV7.out with e | e <;> rw [e] <;> simp [Value.ownBlock] <;> omega))
                clear hg9 ho9 hown9 id7
                have N9 := Lib.hid (show ∀ i u, (((zs.drop k).map (Value.int .i64)))[i]? = some u → w9.cell? ((⟨g, k, none⟩ : Addr).add i) = some u from fun i u hu => by
                  have hi := (List.getElem?_eq_some_iff.1 hu).1
                  rw [List.length_map, List.length_drop] at hi
                  rw [addr_at, O9.out.cellAt (k + i) (by have := HMM.out; omega)]
                  rw [List.getElem?_map, List.getElem?_drop] at hu
                  rw [List.getElem?_map]
                  exact hu)
                obtain ⟨X9, hX9⟩ : ∃ X9, X9 = (zs.drop k).map (Value.int .i64) := ⟨_, rfl⟩
                rw [← hX9] at N9
                have HX9 := Lib.hid hX9
                have LN9 := Lib.hid (show X9.length = (k - k) * 1 by rw [hX9, List.length_map, List.length_drop]; have := HMM.out; omega)
                have ON9 := Lib.hid (show ∀ u ∈ X9, u.oneCell' = true by rw [hX9]; exact oneL _)
                clear hX9
                go_wp2_with (first
                  | (at_builtin; refine wpList_append_own_at _ rfl _ _ 49 rfl v.heap.size 3 i0 (.int .i64 0) 1 8 Tryz.underlying49 hi0 hz0 hz1 hz2 rfl (by decide) _ _ _ rfl R9.out ⟨g, k, none⟩ 0 (cap - k) X9 rfl (by rw [LN9.out]; simp) N9.out ON9.out (by unfold maxLen; omega) (by omega) B9.out.size ?_))
                intro v11 w11 hown11 hg11 _ ho11
                have B11 := Lib.hid (B9.out.grown hg11 B9.out.size (fun q hq => (R9.out.lt q hq).1))
                have R11 := Lib.hid hown11
                clear hown11 hg11 ho11
                have FIN := Lib.hid (show w11.ownsRow v.heap.size 3 1 v11 (lfd (l.take (j + 1)) r).length ((lfd (l.take (j + 1)) r).map (Value.int .i64)) from by
                  have h1 := R11.out
                  rw [ST.out, HIN.out]
                  rw [HX7.out, HX9.out] at h1
                  have e1 : (zs.take k ++ id :: zs.drop k).length = k + 1 := by
                    have := HMM.out
                    rw [List.length_append, List.length_cons, List.length_take, List.length_drop]
                    omega
                  have e2 : (zs.take k ++ id :: zs.drop k).map (Value.int .i64) = (zs.take k).map (Value.int .i64) ++ Value.int .i64 id :: (zs.drop k).map (Value.int .i64) := by simp
                  rw [e1, e2]
                  exact h1)
                have FNE := Lib.hid (show lfd (l.take (j + 1)) r = [] → v11 = .slice none 0 0 from fun h => by
                  rw [ST.out, HIN.out] at h
                  simp at h)
                go_wp2_with fail
                go_roundw
                case rel => first | exact ⟨j + 1, by go_num, HJN.out, FIN.out, FNE.out, B11.out⟩ | ((repeat apply Exists.intro); exact ⟨⟨j + 1, by go_num, HJN.out, FIN.out, FNE.out, B11.out⟩, rfl⟩)
                case measure => simp [intOf]; omega

    · have hlz : ¬ (j : Int) < (n : Int) := by omega
      have hjn : j = l.length := by rw [← NN.out]; omega
      have hO := HO.out
      rw [hjn, List.take_length] at hO
      have FIN := Lib.hid (own_base hO BV.out.size)
      have BF := Lib.hid (BV.out.trans (HB.out.mono BV.out.size))
      clear hO hjn hlt
      go_wp2_with fail
      go_ret
      exact ⟨_, rfl, FIN.out, BF.out⟩
end Go.Proofs.YtobkgamcjfjghaaGreat.Rt
