/-
  The sort of uint64: a row of numbers in one block, in a world that has come of another one by growth and by what was written into that block alone. No program here.
-/
import Derived.Test.YtobkgamcjfjghaaGreatMf06
import Derived.Test.YtobkgamcjfjghaaGreatMf05
import Derived.LaidEqlPtr
import Derived.Deep.RegionHeld3
import Derived.Sort.Row
import Derived.OwnWalk
import Derived.WalkKit
import Derived.Below
import Derived.Lib.Hide
import Derived.Deep.Draws
/-
  Contracts of lose of an R*-tree's part, of its closure, and of slices.Index and slices.Contains at a row of parts.
-/
namespace Go.Proofs.YtobkgamcjfjghaaGreat.Rt
open Go.RowKit Go.Proofs.YtobkgamcjfjghaaGreat.Pt Go.Proofs.YtobkgamcjfjghaaGreat.Rc Go.Proofs.YtobkgamcjfjghaaGreat.Rs
set_option linter.unusedVariables false
set_option linter.unusedSimpArgs false
set_option maxRecDepth 100000

/-- A block that holds cells. -/
def Ob (W : World) (k : Nat) : Prop := ∃ c t, W.heap[k]? = some (.cells c t (0, 0))
theorem Ob.lt {W : World} {k : Nat} (h : Ob W k) : k < W.heap.size := by
  obtain ⟨c, t, e⟩ := h
  exact (Array.getElem?_eq_some_iff.1 e).1
theorem Ob.below {W V : World} {k : Nat} (h : Ob W k) (hb : Below W.heap.size W V) : Ob V k := by
  have hl := h.lt
  obtain ⟨c, t, e⟩ := h
  exact ⟨c, t, (hb.block k hl).trans e⟩
theorem PAt.ob {W : World} {b : Nat} {d : Pd} {s : Value} (h : PAt W b d s) : Ob W b := ⟨_, _, h.obj⟩
theorem Mem.ob {W : World} {σ : St} {V : Nat → Value} (h : Mem W σ V) {k : Nat} (hk : ∃ d, σ k = some d) : Ob W k := by
  obtain ⟨d, hd⟩ := hk
  exact (h.part k d hd).ob
theorem A.infoPart : ∃ j, Tryz.prog.info? 75 = some j ∧ j.size ≠ 0 := by
  have h : (Tryz.prog.info? 75).map (fun i => i.size) = some 7 := by kernel_rfl
  cases e : Tryz.prog.info? 75 with
  | none => rw [e] at h; cases h
  | some j =>
    rw [e] at h
    simp at h
    exact ⟨j, rfl, by omega⟩
theorem ptr_eql {k l : Nat} {w : World} (hk : Ob w k) (hl : Ob w l) : (binOp .eql 61 (.pointer (some ⟨k, 0, none⟩)) (.pointer (some ⟨l, 0, none⟩))).run Tryz.prog w = .ok (.bool (k == l)) w := by
  obtain ⟨j, hj, hz⟩ := A.infoPart
  obtain ⟨ck, tk, ek⟩ := hk
  obtain ⟨cl, tl, el⟩ := hl
  by_cases h : k = l
  · subst h
    rw [beq_self_eq_true]
    exact run_eql_ptr_same w _ Tryz.underlying61 hj
  · rw [beq_eq_false_iff_ne.2 h]
    exact run_eql_ptr_other w Tryz.underlying61 hj hz (fun e => h (by simpa using congrArg Addr.block e)) ek el
theorem lose1_any (k l h : Nat) (w : World) (hh : w.cell? ⟨h, 0, none⟩ = some (ptr l)) (hk : Ob w k) (hl : Ob w l) : Calls Tryz.prog 53 #[ptr k, .pointer (some ⟨h, 0, none⟩)] w fun e w' => e = .returned (.bool (k == l)) ∧ Below w.heap.size w w' := by
  have q := ptr_eql hk hl
  clear hk hl
  unfold ptr at hh ⊢
  go_enter Tryz.func53, Tryz.ntmps53
  go_wp2_with fail
  go_ret
  exact ⟨rfl, Below.refl _ _⟩
set_option maxHeartbeats 1000000 in
theorem index_any (g o cap x : Nat) (ks : List Nat) (w : World) (hg : g < w.heap.size) (hc : ∀ (i : Nat) (hi : i < ks.length), w.cell? ⟨g, o + i, none⟩ = some (ptr ks[i])) (hn : ks.length ≤ 20) (hx : Ob w x) (ho : ∀ k ∈ ks, Ob w k) :
    Calls Tryz.prog 61 #[.slice (some ⟨g, o, none⟩) ks.length cap, ptr x] w fun e w' => ∃ v, e = .returned (.int .i64 v) ∧ IxE ks (fun k => k == x) v ∧ Below w.heap.size w w' := by
  have HC := Lib.hid hc
  have HX := Lib.hid hx
  have HO := Lib.hid ho
  obtain ⟨n, en⟩ : ∃ n, n = ks.length := ⟨_, rfl⟩
  have EN := Lib.hid en
  rw [← en] at hn ⊢
  unfold ptr
  clear hc en hx ho
  have hn' : (n : Int) ≤ 20 := by omega
  go_enter Tryz.func61, Tryz.ntmps61
  go_wp2_with fail
  go_loopw [8] (fun i wr => IxR w ks (fun k => k == x) i wr) (fun i _ => n - (intOf i).toNat)
  case atStart => exact ⟨0, Nat.zero_le _, rfl, fun t _ h => absurd h (Nat.not_lt_zero _), Below.refl _ _⟩
  case round =>
    obtain ⟨j, hj, rfl, hno, hB⟩ := hrel
    rw [← EN.out] at hj
    have HNO := Lib.hid hno
    have HB := Lib.hid hB
    clear hno hB
    by_cases hlt : j < n
    · have hlz : (j : Int) < (n : Int) := by omega
      have hj0 : (0 : Int) ≤ (j : Int) := by omega
      have hjl : j < ks.length := by rw [← EN.out]; exact hlt
      obtain ⟨b, hb⟩ : ∃ b, b = ks[j] := ⟨_, rfl⟩
      have c1 : wr.cell? ⟨g, o + j, none⟩ = some (ptr b) := by rw [hb]; exact (HB.out.cell (p := ⟨g, o + j, none⟩) hg).trans (HC.out j hjl)
      have HBB := Lib.hid hb
      have q := ptr_eql (HX.out.below (HB.out)) ((HO.out b (by rw [hb]; exact List.getElem_mem hjl)).below HB.out)
      obtain ⟨r, hr⟩ : ∃ r, r = (x == b) := ⟨_, rfl⟩
      rw [← hr] at q
      have HR := Lib.hid (show (b == x) = r by
        rw [hr]
        by_cases e : b = x
        · subst e; rfl
        · rw [beq_eq_false_iff_ne.2 e, beq_eq_false_iff_ne.2 (fun e' => e e'.symm)])
      unfold ptr at c1
      clear hb hr
      cases r
      · go_wp2_with fail
        go_roundw
        case rel => exact ⟨j + 1, by omega, by go_num, fun t ht htj => by
          by_cases e : t = j
          · subst e; rw [← HBB.out]; exact HR.out
          · exact HNO.out t ht (by omega), HB.out⟩
        case measure => simp [intOf]; omega
      · go_wp2_with fail
        go_ret
        exact ⟨_, rfl, Or.inr ⟨j, hjl, rfl, by rw [← HBB.out]; exact HR.out, fun i hi hij => HNO.out i hi hij⟩, HB.out⟩
    · have hlz : ¬ (j : Int) < (n : Int) := by omega
      have hjn : j = ks.length := by have := EN.out; omega
      have HF := Lib.hid (show ∀ k ∈ ks, (k == x) = false by
        intro k hk
        obtain ⟨i, hi, rfl⟩ := List.getElem_of_mem hk
        exact HNO.out i hi (by omega))
      clear hjn
      go_wp2_with fail
      go_ret
      exact ⟨_, rfl, Or.inl ⟨rfl, HF.out⟩, HB.out⟩
set_option maxHeartbeats 1000000 in
theorem contains_any (g o cap x : Nat) (ks : List Nat) (w : World) (hg : g < w.heap.size) (hc : ∀ (i : Nat) (hi : i < ks.length), w.cell? ⟨g, o + i, none⟩ = some (ptr ks[i])) (hn : ks.length ≤ 20) (hx : Ob w x) (ho : ∀ k ∈ ks, Ob w k) :
    Calls Tryz.prog 50 #[.slice (some ⟨g, o, none⟩) ks.length cap, ptr x] w fun e w' => e = .returned (.bool (ks.contains x)) ∧ Below w.heap.size w w' := by
  have CI := Lib.hid (index_any g o cap x ks w hg hc hn hx ho)
  obtain ⟨n, en⟩ : ∃ n, n = ks.length := ⟨_, rfl⟩
  rw [← en] at CI ⊢
  unfold ptr at CI ⊢
  clear hc hn hx ho en
  go_enter Tryz.func50, Tryz.ntmps50
  go_wp2_with fail
  refine (CI.out).mono ?_
  rintro e w1 ⟨v, rfl, hix, hb1⟩
  rcases hix with ⟨rfl, hno⟩ | ⟨j, hj, rfl, hyes, _⟩
  · have HF := Lib.hid (show ks.contains x = false by
      rw [← Bool.not_eq_true, List.contains_iff_mem]
      intro hm
      have := hno x hm
      simp at this)
    have B1 := Lib.hid hb1
    clear hno hb1
    go_wp2_with fail
    go_ret
    exact ⟨by rw [HF.out]; simp, B1.out⟩
  · have HF := Lib.hid (show ks.contains x = true by
      rw [List.contains_iff_mem]
      have e : ks[j] = x := by simpa using hyes
      rw [← e]
      exact List.getElem_mem hj)
    have B1 := Lib.hid hb1
    have hj0 : (0 : Int) ≤ (j : Int) := by omega
    clear hyes hb1
    go_wp2_with fail
    go_ret
    exact ⟨by rw [HF.out]; simp, B1.out⟩
theorem PAt.setK {W : World} {b : Nat} {d : Pd} {s t : Value} {ks : List Nat} (h : PAt W b d s) (ht : t.ownBlock ≠ some b) (hr : W.ownsRow 0 61 1 t ks.length (ks.map ptr)) : PAt (W.setCell ⟨b, 6, none⟩ t) b { d with kids := ks } t := by
  refine ⟨?_, ?_⟩
  · rw [set_obj h.obj 6 t]
    simp [pdC]
  · refine ⟨hr.1, ?_⟩
    rcases hr.2 with ⟨e, e2⟩ | ⟨g, c, cur, rfl, k1, k2, k3⟩
    · exact Or.inl ⟨e, e2⟩
    · have hg : g ≠ b := fun e => ht (by rw [e]; rfl)
      exact Or.inr ⟨g, c, cur, rfl, k1, by rw [Below.heap_setCell _ _ _ _ hg]; exact k2, k3⟩
/-- The store behind a kids' change and a fit. -/
def fitK (σ : St) (n : Nat) (d : Pd) (ks : List Nat) : St := upd σ n { d with r := hull σ ks, kids := ks }

set_option maxHeartbeats 2000000 in
theorem lose_any (n l : Nat) (d : Pd) (σ : St) (V : Nat → Value) (w : World) (hM : Mem w σ V) (hd : σ n = some d) (hk : ∀ k ∈ d.kids, k ≠ n ∧ ∃ e, σ k = some e) (hn : d.kids.length ≤ 20) (hl : ∃ e, σ l = some e) :
    Calls Tryz.prog 37 #[ptr n, ptr l] w fun e w' => e = .returned (.tuple #[]) ∧ ∃ s, s.ownBlock = (V n).ownBlock ∧ Mem w' (fitK σ n d (d.kids.filter fun k => k != l)) (updV V n s) ∧ Ke (fun k => k = n ∨ (V n).ownBlock = some k) w w' := by
  have HM := Lib.hid hM
  have HD := Lib.hid hd
  obtain ⟨A0, c, hsv, hc1, hc2, hrow⟩ := (hM.part n d hd).kids
  obtain ⟨z0, z1, z2, z3, z4, z5, z6⟩ := (hM.part n d hd).cells
  have HT := Lib.hid (hM.tags hd hd)
  have HNL := Lib.hid (hM.part n d hd).lt
  obtain ⟨h, hh⟩ : ∃ h, h = w.heap.size := ⟨_, rfl⟩
  obtain ⟨v, hv⟩ : ∃ v, v = w.alloc (.cells #[ptr l] 61) := ⟨_, rfl⟩
  have BV := Lib.hid (show Below w.heap.size w v by rw [hv]; exact (Below.refl _ _).alloc (Nat.le_refl _) _)
  have VH := Lib.hid (show v.cell? ⟨h, 0, none⟩ = some (ptr l) by rw [hv, hh]; simp [go_sem])
  have HLT := Lib.hid (show h < v.heap.size by rw [hv, hh]; simp)
  have MV := Lib.hid (hM.later BV.out)
  have PV := Lib.hid (MV.out.part n d hd)
  have hob : ∀ W g', v.grownBy W (some g') → ∀ k, (∃ e, σ k = some e) → (Value.slice A0 d.kids.length c).ownBlock = some g' → Ob W k := fun W g' hW k hk' hg => by
    obtain ⟨e, he⟩ := hk'
    have hkg : k ≠ g' := fun e2 => hM.tags he hd (by rw [hsv, e2]; exact hg)
    exact ⟨_, _, (hW.block k (MV.out.part k e he).lt (fun e3 => hkg (Option.some.inj e3))).trans (MV.out.part k e he).obj⟩
  have CD := Lib.hid (delf_ls c h A0 d.kids (fun k => k == l) v (by have := PV.out.row; rw [hsv] at this; exact this) hn (fun g hg W hW k hk' => lose1_any k l h W (by
    have : g ≠ h := fun e => by
      have hgl := hM.foot_lt (Or.inr ⟨n, d, hd, by rw [hsv]; exact hg⟩)
      omega
    exact (World.cell?_of_block (w := v) (w' := W) (a := ⟨h, 0, none⟩) (hW.block h HLT.out (fun e => this (Option.some.inj e).symm))).trans VH.out) (hob W g hW k (hk k hk').2 hg) (hob W g hW l hl hg)))
  have ek : (d.kids.filter fun k => !(k == l)) = d.kids.filter fun k => k != l := rfl
  rw [ek] at CD
  obtain ⟨ks, eks⟩ : ∃ ks, ks = d.kids.filter fun k => k != l := ⟨_, rfl⟩
  rw [← eks] at CD ⊢
  have HKS := Lib.hid (show ∀ k ∈ ks, k ≠ n ∧ ∃ e, σ k = some e from fun k hk' => hk k (by rw [eks] at hk'; exact (List.mem_filter.1 hk').1))
  have HKL := Lib.hid (show ks.length ≤ 20 by rw [eks]; exact Nat.le_trans (List.length_filter_le _ _) hn)
  have HSV := Lib.hid hsv
  obtain ⟨m, em⟩ : ∃ m, m = d.kids.length := ⟨_, rfl⟩
  rw [hsv, ← em] at z6
  have c6 := cell_later BV.out z6
  have c7 := cell_later (show Below w.heap.size w (w.alloc (.cells #[ptr l] 61)) from (Below.refl _ _).alloc (Nat.le_refl _) _) z6
  have hvs : w.alloc (.cells #[ptr l] 61) = v := hv.symm
  have EM := Lib.hid em
  rw [← em] at CD
  unfold ptr at hvs CD c7 ⊢
  have HVS := Lib.hid hvs
  have HH := Lib.hid hh
  clear hM hd hsv hc1 hc2 hrow z0 z1 z2 z3 z4 z5 hv hk eks ek hvs em hob hl
  go_enter Tryz.func37, Tryz.ntmps37
  go_wp2_with fail
  rw [HVS.out, ← hh]
  refine (CD.out).mono ?_
  rintro e w1 ⟨rfl, hrow, hgr⟩
  have HROW := Lib.hid hrow
  have HSV2 := Lib.hid (show V n = .slice A0 m c by rw [HSV.out, ← EM.out])
  have K1 := Lib.hid (show Ke (fun k => k = n ∨ (V n).ownBlock = some k) w w1 from (Ke.of_below (X := fun k => k = n ∨ (V n).ownBlock = some k) BV.out).grown hgr (fun k hk => Or.inl (Or.inr (by rw [HSV2.out]; exact hk))))
  have P1 := Lib.hid (show w1.heap[n]? = some (.cells (pdC d (V n)) 75 (0, 0)) from (hgr.block n PV.out.lt (fun e => HT.out (by rw [HSV2.out]; exact e.symm))).trans PV.out.obj)
  have q6 : w1.cell? ⟨n, 6, none⟩ = some (V n) := by have := P1.out; simp [World.cell?, this, pdC]
  have qf : ∀ o, w1.frozen? ⟨n, o, none⟩ = false := fun o => by have := P1.out; simp [World.frozen?, this]
  obtain ⟨s, es⟩ : ∃ s, s = Value.slice A0 ks.length c := ⟨_, rfl⟩
  have HO := Lib.hid (show s.ownBlock = (V n).ownBlock by rw [es, HSV2.out]; cases A0 <;> rfl)
  have P2 := Lib.hid (show PAt (w1.setCell ⟨n, 6, none⟩ s) n { d with kids := ks } s from by
    have hrs : w1.ownsRow 0 61 1 s ks.length (ks.map ptr) := by rw [es]; exact hrow
    have ht : s.ownBlock ≠ some n := by rw [HO.out]; exact HT.out
    refine ⟨?_, ?_⟩
    · rw [set_obj P1.out 6 s]
      simp [pdC]
    · refine ⟨hrs.1, ?_⟩
      rcases hrs.2 with ⟨e, e2⟩ | ⟨g, c', cur, e, k1, k2, k3⟩
      · exact Or.inl ⟨e, e2⟩
      · have hg : g ≠ n := fun e' => ht (by rw [e, e']; rfl)
        exact Or.inr ⟨g, c', cur, e, k1, by rw [Below.heap_setCell _ _ _ _ hg]; exact k2, k3⟩)
  have K2 := Lib.hid (K1.out.set n 6 s (Or.inl (Or.inl rfl)))
  have AP := Lib.hid (show ∀ c' e g, σ c' = some e → c' ≠ n → (V c').ownBlock = some g → s.ownBlock ≠ some g from fun c' e g hc' hne hg hg2 => hne (HM.out.apart c' n e d g hc' HD.out hg (by rw [← HO.out]; exact hg2)))
  have M2 := Lib.hid (HM.out.put HD.out P2.out K2.out AP.out)
  have CF := Lib.hid (fit_any n { d with kids := ks } _ _ _ M2.out (upd_same _ _ _) (fun k hk' => ⟨(HKS.out k hk').1, by rw [upd_other _ _ (HKS.out k hk').1]; exact (HKS.out k hk').2⟩) HKL.out)
  rw [updV_same, hull_upd (fun k hk' => (HKS.out k hk').1)] at CF
  have HES := Lib.hid es.symm
  unfold ptr at CF
  dsimp only at CF
  rw [es] at CF
  clear hrow hgr c6 z6 CD es c7
  go_wp2_with fail
  refine (CF.out).mono ?_
  rintro e w3 ⟨rfl, hP3, hK3⟩
  rw [HES.out] at hP3 hK3
  have P3 := Lib.hid hP3
  have K3 := Lib.hid (K2.out.trans hK3 (fun g _ hg => Or.inl hg))
  clear hP3 hK3 q6 qf
  go_wp2_with fail
  refine bodyPost_end (v := .tuple #[]) (by simp [results, Tryz.results37, go_sem]) rfl ⟨rfl, s, HO.out, ?_, K3.out⟩
  exact HM.out.put HD.out P3.out K3.out AP.out
end Go.Proofs.YtobkgamcjfjghaaGreat.Rt
/-
  The comparators of package rsplit: each tells some number. Memory that was there is left as it was.
-/
namespace Go.Proofs.YtobkgamcjfjghaaGreat.Rs
open Go.RowKit Go.Proofs.YtobkgamcjfjghaaGreat.Pt Go.Proofs.YtobkgamcjfjghaaGreat.Rc Go.Proofs.YtobkgamcjfjghaaGreat.Pts
set_option linter.unusedVariables false
set_option linter.unusedSimpArgs false
set_option maxHeartbeats 4000000
set_option maxRecDepth 100000
theorem or2 (W : World) (a b : Int) (t : TypeId) : ∀ k, k < 2 → ∃ x : Int, (W.alloc (.cells #[.int .i64 a, .int .i64 b] t)).cell? ⟨W.heap.size, 0 + k, none⟩ = some (.int .i64 x) := by
  intro k hk
  have : k = 0 ∨ k = 1 := by omega
  rcases this with rfl | rfl <;> simp [go_sem]
theorem or2d (W : World) (a b : Int) (t : TypeId) : ∀ k, k < 2 → ∃ x : Int, (W.alloc (.cells #[.int .i64 a, .int .i64 b] t)).drew.cell? ⟨W.heap.size, 0 + k, none⟩ = some (.int .i64 x) := fun k hk => or2 W a b t k hk
theorem lowX_any (r : R4) (w : World) : Calls Tryz.prog 85 #[rv r] w fun e w' => ∃ a b : Int, e = .returned (.tuple #[.int .i64 a, .int .i64 b]) ∧ Below w.heap.size w w' := by
  obtain ⟨x1, y1, x2, y2⟩ := r
  unfold rv
  dsimp only
  have HB := Lib.hid ((Below.refl w.heap.size w).alloc (Nat.le_refl _) (.cells #[.int .i64 x1, .int .i64 y1, .int .i64 x2, .int .i64 y2] 26))
  go_enter Tryz.func85, Tryz.ntmps85
  go_wp2_with fail
  go_region
  all_goals go_wp2_with fail
  all_goals refine bodyPost_ret (v := .tuple #[.int .i64 x1, .int .i64 x2]) (by simp [results, Tryz.results85, go_sem, *]) rfl ⟨_, _, rfl, HB.out.drew⟩
theorem highX_any (r : R4) (w : World) : Calls Tryz.prog 86 #[rv r] w fun e w' => ∃ a b : Int, e = .returned (.tuple #[.int .i64 a, .int .i64 b]) ∧ Below w.heap.size w w' := by
  obtain ⟨x1, y1, x2, y2⟩ := r
  unfold rv
  dsimp only
  have HB := Lib.hid ((Below.refl w.heap.size w).alloc (Nat.le_refl _) (.cells #[.int .i64 x1, .int .i64 y1, .int .i64 x2, .int .i64 y2] 26))
  go_enter Tryz.func86, Tryz.ntmps86
  go_wp2_with fail
  go_region
  all_goals go_wp2_with fail
  all_goals refine bodyPost_ret (v := .tuple #[.int .i64 x2, .int .i64 x1]) (by simp [results, Tryz.results86, go_sem, *]) rfl ⟨_, _, rfl, HB.out.drew⟩
theorem lowY_any (r : R4) (w : World) : Calls Tryz.prog 87 #[rv r] w fun e w' => ∃ a b : Int, e = .returned (.tuple #[.int .i64 a, .int .i64 b]) ∧ Below w.heap.size w w' := by
  obtain ⟨x1, y1, x2, y2⟩ := r
  unfold rv
  dsimp only
  have HB := Lib.hid ((Below.refl w.heap.size w).alloc (Nat.le_refl _) (.cells #[.int .i64 x1, .int .i64 y1, .int .i64 x2, .int .i64 y2] 26))
  go_enter Tryz.func87, Tryz.ntmps87
  go_wp2_with fail
  go_region
  all_goals go_wp2_with fail
  all_goals refine bodyPost_ret (v := .tuple #[.int .i64 y1, .int .i64 y2]) (by simp [results, Tryz.results87, go_sem, *]) rfl ⟨_, _, rfl, HB.out.drew⟩
theorem highY_any (r : R4) (w : World) : Calls Tryz.prog 88 #[rv r] w fun e w' => ∃ a b : Int, e = .returned (.tuple #[.int .i64 a, .int .i64 b]) ∧ Below w.heap.size w w' := by
  obtain ⟨x1, y1, x2, y2⟩ := r
  unfold rv
  dsimp only
  have HB := Lib.hid ((Below.refl w.heap.size w).alloc (Nat.le_refl _) (.cells #[.int .i64 x1, .int .i64 y1, .int .i64 x2, .int .i64 y2] 26))
  go_enter Tryz.func88, Tryz.ntmps88
  go_wp2_with fail
  go_region
  all_goals go_wp2_with fail
  all_goals refine bodyPost_ret (v := .tuple #[.int .i64 y2, .int .i64 y1]) (by simp [results, Tryz.results88, go_sem, *]) rfl ⟨_, _, rfl, HB.out.drew⟩
theorem by_lowX_any (a b : R4) (w : World) : Calls Tryz.prog 109 #[.func (.func 85) #[] #[], rv a, rv b] w fun e w' => ∃ n : Int, e = .returned (.int .i64 n) ∧ Below w.heap.size w w' := by
  have CA := Lib.hid (fun W => lowX_any a W)
  have CB := Lib.hid (fun W => lowX_any b W)
  obtain ⟨ax1, ay1, ax2, ay2⟩ := a
  obtain ⟨bx1, by1, bx2, by2⟩ := b
  unfold rv at CA CB ⊢
  dsimp only at CA CB ⊢
  have HB := Lib.hid (below2 w (.cells #[.int .i64 ax1, .int .i64 ay1, .int .i64 ax2, .int .i64 ay2] 26) (.cells #[.int .i64 bx1, .int .i64 by1, .int .i64 bx2, .int .i64 by2] 26))
  have hR := Rc4.new (w.alloc (.cells #[.int .i64 ax1, .int .i64 ay1, .int .i64 ax2, .int .i64 ay2] 26)) bx1 by1 bx2 by2 26
  rw [World.size_alloc] at hR
  have RB := Lib.hid hR
  clear hR
  go_enter Tryz.func109, Tryz.ntmps109
  go_wp2_with fail
  refine Calls.mono (CA.out _) ?_
  rintro e w1 ⟨p, q, rfl, hb1⟩
  have B1 := Lib.hid (HB.out.trans (hb1.mono HB.out.size))
  obtain ⟨d0, d1, d2, d3, f0, f1, f2, f3⟩ := RB.out.later hb1
  clear hb1
  go_wp2_with fail
  refine Calls.mono (CB.out _) ?_
  rintro e w2 ⟨p2, q2, rfl, hb2⟩
  have B2 := Lib.hid (B1.out.trans (hb2.mono B1.out.size))
  clear hb2 d0 d1 d2 d3 f0 f1 f2 f3
  go_wp2_with (first
    | (go_at_call 96; refine (cmpI_any _ _ _).mono ?_; rintro e w3 ⟨n3, rfl, rfl⟩))
  refine (or_any _ _ _ _ _ (by omega) (or2 _ _ _ _)).mono ?_
  rintro e w4 ⟨n4, rfl, rfl⟩
  go_wp2_with fail
  go_ret
  exact ⟨n4, rfl, B2.out.alloc B2.out.size _⟩
theorem by_highX_any (a b : R4) (w : World) : Calls Tryz.prog 109 #[.func (.func 86) #[] #[], rv a, rv b] w fun e w' => ∃ n : Int, e = .returned (.int .i64 n) ∧ Below w.heap.size w w' := by
  have CA := Lib.hid (fun W => highX_any a W)
  have CB := Lib.hid (fun W => highX_any b W)
  obtain ⟨ax1, ay1, ax2, ay2⟩ := a
  obtain ⟨bx1, by1, bx2, by2⟩ := b
  unfold rv at CA CB ⊢
  dsimp only at CA CB ⊢
  have HB := Lib.hid (below2 w (.cells #[.int .i64 ax1, .int .i64 ay1, .int .i64 ax2, .int .i64 ay2] 26) (.cells #[.int .i64 bx1, .int .i64 by1, .int .i64 bx2, .int .i64 by2] 26))
  have hR := Rc4.new (w.alloc (.cells #[.int .i64 ax1, .int .i64 ay1, .int .i64 ax2, .int .i64 ay2] 26)) bx1 by1 bx2 by2 26
  rw [World.size_alloc] at hR
  have RB := Lib.hid hR
  clear hR
  go_enter Tryz.func109, Tryz.ntmps109
  go_wp2_with fail
  refine Calls.mono (CA.out _) ?_
  rintro e w1 ⟨p, q, rfl, hb1⟩
  have B1 := Lib.hid (HB.out.trans (hb1.mono HB.out.size))
  obtain ⟨d0, d1, d2, d3, f0, f1, f2, f3⟩ := RB.out.later hb1
  clear hb1
  go_wp2_with fail
  refine Calls.mono (CB.out _) ?_
  rintro e w2 ⟨p2, q2, rfl, hb2⟩
  have B2 := Lib.hid (B1.out.trans (hb2.mono B1.out.size))
  clear hb2 d0 d1 d2 d3 f0 f1 f2 f3
  go_wp2_with (first
    | (go_at_call 96; refine (cmpI_any _ _ _).mono ?_; rintro e w3 ⟨n3, rfl, rfl⟩))
  refine (or_any _ _ _ _ _ (by omega) (or2 _ _ _ _)).mono ?_
  rintro e w4 ⟨n4, rfl, rfl⟩
  go_wp2_with fail
  go_ret
  exact ⟨n4, rfl, B2.out.alloc B2.out.size _⟩
theorem by_lowY_any (a b : R4) (w : World) : Calls Tryz.prog 109 #[.func (.func 87) #[] #[], rv a, rv b] w fun e w' => ∃ n : Int, e = .returned (.int .i64 n) ∧ Below w.heap.size w w' := by
  have CA := Lib.hid (fun W => lowY_any a W)
  have CB := Lib.hid (fun W => lowY_any b W)
  obtain ⟨ax1, ay1, ax2, ay2⟩ := a
  obtain ⟨bx1, by1, bx2, by2⟩ := b
  unfold rv at CA CB ⊢
  dsimp only at CA CB ⊢
  have HB := Lib.hid (below2 w (.cells #[.int .i64 ax1, .int .i64 ay1, .int .i64 ax2, .int .i64 ay2] 26) (.cells #[.int .i64 bx1, .int .i64 by1, .int .i64 bx2, .int .i64 by2] 26))
  have hR := Rc4.new (w.alloc (.cells #[.int .i64 ax1, .int .i64 ay1, .int .i64 ax2, .int .i64 ay2] 26)) bx1 by1 bx2 by2 26
  rw [World.size_alloc] at hR
  have RB := Lib.hid hR
  clear hR
  go_enter Tryz.func109, Tryz.ntmps109
  go_wp2_with fail
  refine Calls.mono (CA.out _) ?_
  rintro e w1 ⟨p, q, rfl, hb1⟩
  have B1 := Lib.hid (HB.out.trans (hb1.mono HB.out.size))
  obtain ⟨d0, d1, d2, d3, f0, f1, f2, f3⟩ := RB.out.later hb1
  clear hb1
  go_wp2_with fail
  refine Calls.mono (CB.out _) ?_
  rintro e w2 ⟨p2, q2, rfl, hb2⟩
  have B2 := Lib.hid (B1.out.trans (hb2.mono B1.out.size))
  clear hb2 d0 d1 d2 d3 f0 f1 f2 f3
  go_wp2_with (first
    | (go_at_call 96; refine (cmpI_any _ _ _).mono ?_; rintro e w3 ⟨n3, rfl, rfl⟩))
  refine (or_any _ _ _ _ _ (by omega) (or2 _ _ _ _)).mono ?_
  rintro e w4 ⟨n4, rfl, rfl⟩
  go_wp2_with fail
  go_ret
  exact ⟨n4, rfl, B2.out.alloc B2.out.size _⟩
theorem by_highY_any (a b : R4) (w : World) : Calls Tryz.prog 109 #[.func (.func 88) #[] #[], rv a, rv b] w fun e w' => ∃ n : Int, e = .returned (.int .i64 n) ∧ Below w.heap.size w w' := by
  have CA := Lib.hid (fun W => highY_any a W)
  have CB := Lib.hid (fun W => highY_any b W)
  obtain ⟨ax1, ay1, ax2, ay2⟩ := a
  obtain ⟨bx1, by1, bx2, by2⟩ := b
  unfold rv at CA CB ⊢
  dsimp only at CA CB ⊢
  have HB := Lib.hid (below2 w (.cells #[.int .i64 ax1, .int .i64 ay1, .int .i64 ax2, .int .i64 ay2] 26) (.cells #[.int .i64 bx1, .int .i64 by1, .int .i64 bx2, .int .i64 by2] 26))
  have hR := Rc4.new (w.alloc (.cells #[.int .i64 ax1, .int .i64 ay1, .int .i64 ax2, .int .i64 ay2] 26)) bx1 by1 bx2 by2 26
  rw [World.size_alloc] at hR
  have RB := Lib.hid hR
  clear hR
  go_enter Tryz.func109, Tryz.ntmps109
  go_wp2_with fail
  refine Calls.mono (CA.out _) ?_
  rintro e w1 ⟨p, q, rfl, hb1⟩
  have B1 := Lib.hid (HB.out.trans (hb1.mono HB.out.size))
  obtain ⟨d0, d1, d2, d3, f0, f1, f2, f3⟩ := RB.out.later hb1
  clear hb1
  go_wp2_with fail
  refine Calls.mono (CB.out _) ?_
  rintro e w2 ⟨p2, q2, rfl, hb2⟩
  have B2 := Lib.hid (B1.out.trans (hb2.mono B1.out.size))
  clear hb2 d0 d1 d2 d3 f0 f1 f2 f3
  go_wp2_with (first
    | (go_at_call 96; refine (cmpI_any _ _ _).mono ?_; rintro e w3 ⟨n3, rfl, rfl⟩))
  refine (or_any _ _ _ _ _ (by omega) (or2 _ _ _ _)).mono ?_
  rintro e w4 ⟨n4, rfl, rfl⟩
  go_wp2_with fail
  go_ret
  exact ⟨n4, rfl, B2.out.alloc B2.out.size _⟩
theorem apart_any (a b : R4) (w : World) : Calls Tryz.prog 97 #[rv a, rv b] w fun e w' => ∃ n : Int, e = .returned (.int .i64 n) ∧ Below w.heap.size w w' := by
  obtain ⟨ax1, ay1, ax2, ay2⟩ := a
  obtain ⟨bx1, by1, bx2, by2⟩ := b
  unfold rv
  dsimp only
  obtain ⟨v, hv⟩ : ∃ v, v = (w.alloc (.cells #[.int .i64 ax1, .int .i64 ay1, .int .i64 ax2, .int .i64 ay2] 26)).alloc (.cells #[.int .i64 bx1, .int .i64 by1, .int .i64 bx2, .int .i64 by2] 26) := ⟨_, rfl⟩
  have hvs : (w.alloc (.cells #[.int .i64 ax1, .int .i64 ay1, .int .i64 ax2, .int .i64 ay2] 26)).alloc (.cells #[.int .i64 bx1, .int .i64 by1, .int .i64 bx2, .int .i64 by2] 26) = v := hv.symm
  have BV := Lib.hid (show Below w.heap.size w v by rw [hv]; exact below2 w _ _)
  have SV : w.heap.size + 1 < v.heap.size := by rw [hv]; simp
  have HS : Hid (∀ W, Below v.heap.size v W → W.cell? ⟨w.heap.size, 0, none⟩ = some (.int .i64 ax1) ∧ W.cell? ⟨w.heap.size, 1, none⟩ = some (.int .i64 ay1) ∧ W.cell? ⟨w.heap.size, 2, none⟩ = some (.int .i64 ax2) ∧ W.cell? ⟨w.heap.size, 3, none⟩ = some (.int .i64 ay2) ∧ W.cell? ⟨w.heap.size + 1, 0, none⟩ = some (.int .i64 bx1) ∧ W.cell? ⟨w.heap.size + 1, 1, none⟩ = some (.int .i64 by1) ∧ W.cell? ⟨w.heap.size + 1, 2, none⟩ = some (.int .i64 bx2) ∧ W.cell? ⟨w.heap.size + 1, 3, none⟩ = some (.int .i64 by2) ∧ Below v.heap.size v W) := Lib.hid fun W hB => by
    have q1 : ∀ x, W.cell? ⟨w.heap.size, x, none⟩ = v.cell? ⟨w.heap.size, x, none⟩ := fun x => World.cell?_of_block (w := v) (w' := W) (a := ⟨w.heap.size, x, none⟩) (hB.block w.heap.size (by omega))
    have q2 : ∀ x, W.cell? ⟨w.heap.size + 1, x, none⟩ = v.cell? ⟨w.heap.size + 1, x, none⟩ := fun x => World.cell?_of_block (w := v) (w' := W) (a := ⟨w.heap.size + 1, x, none⟩) (hB.block (w.heap.size + 1) SV)
    simp only [q1, q2]
    refine ⟨?_, ?_, ?_, ?_, ?_, ?_, ?_, ?_, hB⟩ <;> rw [hv] <;> simp
  have HV := Lib.hid hvs
  clear hv hvs SV
  go_enter Tryz.func97, Tryz.ntmps97
  go_wp2_with fail
  rw [HV.out]
  refine wp_region_held_drew (S := (fun W => W.cell? ⟨w.heap.size, 0, none⟩ = some (.int .i64 ax1) ∧ W.cell? ⟨w.heap.size, 1, none⟩ = some (.int .i64 ay1) ∧ W.cell? ⟨w.heap.size, 2, none⟩ = some (.int .i64 ax2) ∧ W.cell? ⟨w.heap.size, 3, none⟩ = some (.int .i64 ay2) ∧ W.cell? ⟨w.heap.size + 1, 0, none⟩ = some (.int .i64 bx1) ∧ W.cell? ⟨w.heap.size + 1, 1, none⟩ = some (.int .i64 by1) ∧ W.cell? ⟨w.heap.size + 1, 2, none⟩ = some (.int .i64 bx2) ∧ W.cell? ⟨w.heap.size + 1, 3, none⟩ = some (.int .i64 by2) ∧ Below v.heap.size v W)) (by kernel_rfl) (HS.out _ (Below.drew (Below.refl _ _))) (fun hHeld => ?_)
  refine wpAnyH_take (i := 0) (v := ?v0) rfl (by kernel_rfl) (by kernel_rfl) (by kernel_rfl) (fun _ _ _ h => h) (Or.inl ⟨by rfl, ?y0⟩) hHeld ?r0
  case y0 => (intro W hSw; simp only [List.getElem_toArray, List.getElem_cons_zero]; go_simp; try (with_reducible rfl))
  simp only [List.getElem_toArray, List.getElem_cons_zero, Act.put, List.setIfInBounds_toArray, List.set_cons_zero, List.set_cons_succ]
  refine wpAnyH_take (i := 1) (v := ?v1) rfl (by kernel_rfl) (by kernel_rfl) (by kernel_rfl) (fun _ _ _ h => h) (Or.inl ⟨by rfl, ?y1⟩) hHeld ?r1
  case y1 => (intro W hSw; simp only [List.getElem_toArray, List.getElem_cons_succ, List.getElem_cons_zero]; go_simp; try (with_reducible rfl))
  simp only [List.getElem_toArray, List.getElem_cons_succ, List.getElem_cons_zero, Act.put, List.setIfInBounds_toArray, List.set_cons_zero, List.set_cons_succ]
  refine wpAnyH_take (i := 2) (v := ?v2) rfl (by kernel_rfl) (by kernel_rfl) (by kernel_rfl) (fun _ _ _ h => h) (Or.inl ⟨by rfl, ?y2⟩) hHeld ?r2
  case y2 => (intro W hSw; simp only [List.getElem_toArray, List.getElem_cons_succ, List.getElem_cons_zero]; go_simp; try (with_reducible rfl))
  simp only [List.getElem_toArray, List.getElem_cons_succ, List.getElem_cons_zero, Act.put, List.setIfInBounds_toArray, List.set_cons_zero, List.set_cons_succ]
  refine wpAnyH_take (i := 3) (v := ?v3) rfl (by kernel_rfl) (by kernel_rfl) (by kernel_rfl) (fun _ _ _ h => h) (Or.inl ⟨by rfl, ?y3⟩) hHeld ?r3
  case y3 => (intro W hSw; simp only [List.getElem_toArray, List.getElem_cons_succ, List.getElem_cons_zero]; go_simp; try (with_reducible rfl))
  simp only [List.getElem_toArray, List.getElem_cons_succ, List.getElem_cons_zero, Act.put, List.setIfInBounds_toArray, List.set_cons_zero, List.set_cons_succ]
  refine wpAnyH_take (i := 4) (v := ?v4) rfl (by kernel_rfl) (by kernel_rfl) (by kernel_rfl) (fun _ _ _ h => h) (Or.inl ⟨by rfl, ?y4⟩) hHeld ?r4
  case y4 => (intro W hSw; simp only [List.getElem_toArray, List.getElem_cons_succ, List.getElem_cons_zero]; go_simp; try (with_reducible rfl))
  simp only [List.getElem_toArray, List.getElem_cons_succ, List.getElem_cons_zero, Act.put, List.setIfInBounds_toArray, List.set_cons_zero, List.set_cons_succ]
  refine wpAnyH_take (i := 5) (v := ?v5) rfl (by kernel_rfl) (by kernel_rfl) (by kernel_rfl) (fun _ _ _ h => h) (Or.inl ⟨by rfl, ?y5⟩) hHeld ?r5
  case y5 => (intro W hSw; simp only [List.getElem_toArray, List.getElem_cons_succ, List.getElem_cons_zero]; go_simp; try (with_reducible rfl))
  simp only [List.getElem_toArray, List.getElem_cons_succ, List.getElem_cons_zero, Act.put, List.setIfInBounds_toArray, List.set_cons_zero, List.set_cons_succ]
  refine wpAnyH_take (i := 6) (v := ?v6) rfl (by kernel_rfl) (by kernel_rfl) (by kernel_rfl) (fun _ _ _ h => h) (Or.inl ⟨by rfl, ?y6⟩) hHeld ?r6
  case y6 => (intro W hSw; simp only [List.getElem_toArray, List.getElem_cons_succ, List.getElem_cons_zero]; go_simp; try (with_reducible rfl))
  simp only [List.getElem_toArray, List.getElem_cons_succ, List.getElem_cons_zero, Act.put, List.setIfInBounds_toArray, List.set_cons_zero, List.set_cons_succ]
  refine wpAnyH_take (i := 7) (v := ?v7) rfl (by kernel_rfl) (by kernel_rfl) (by kernel_rfl) (fun _ _ _ h => h) (Or.inl ⟨by rfl, ?y7⟩) hHeld ?r7
  case y7 => (intro W hSw; simp only [List.getElem_toArray, List.getElem_cons_succ, List.getElem_cons_zero]; go_simp; try (with_reducible rfl))
  simp only [List.getElem_toArray, List.getElem_cons_succ, List.getElem_cons_zero, Act.put, List.setIfInBounds_toArray, List.set_cons_zero, List.set_cons_succ]
  refine wpAnyH_take (i := 8) (v := ?v8) rfl (by kernel_rfl) (by kernel_rfl) (by kernel_rfl) (fun _ _ _ h => h) (Or.inl ⟨by rfl, ?y8⟩) hHeld ?r8
  case y8 => (intro W hSw; simp only [List.getElem_toArray, List.getElem_cons_succ, List.getElem_cons_zero]; go_simp; try (with_reducible rfl))
  simp only [List.getElem_toArray, List.getElem_cons_succ, List.getElem_cons_zero, Act.put, List.setIfInBounds_toArray, List.set_cons_zero, List.set_cons_succ]
  refine wpAnyH_take (i := 9) (v := ?v9) rfl (by kernel_rfl) (by kernel_rfl) (by kernel_rfl) (fun _ _ _ h => h) (Or.inl ⟨by rfl, ?y9⟩) hHeld ?r9
  case y9 => (intro W hSw; simp only [List.getElem_toArray, List.getElem_cons_succ, List.getElem_cons_zero]; go_simp; try (with_reducible rfl))
  simp only [List.getElem_toArray, List.getElem_cons_succ, List.getElem_cons_zero, Act.put, List.setIfInBounds_toArray, List.set_cons_zero, List.set_cons_succ]
  refine wpAnyH_take (i := 11) (v := ?v11) rfl (by kernel_rfl) (by kernel_rfl) (by kernel_rfl) (fun _ _ _ h => h) (Or.inl ⟨by rfl, ?y11⟩) hHeld ?r11
  case y11 => (intro W hSw; simp only [List.getElem_toArray, List.getElem_cons_succ, List.getElem_cons_zero]; go_simp; try (with_reducible rfl))
  simp only [List.getElem_toArray, List.getElem_cons_succ, List.getElem_cons_zero, Act.put, List.setIfInBounds_toArray, List.set_cons_zero, List.set_cons_succ]
  refine wpAnyH_take (i := 12) (v := ?v12) rfl (by kernel_rfl) (by kernel_rfl) (by kernel_rfl) (fun _ _ _ h => h) (Or.inl ⟨by rfl, ?y12⟩) hHeld ?r12
  case y12 => (intro W hSw; simp only [List.getElem_toArray, List.getElem_cons_succ, List.getElem_cons_zero]; go_simp; try (with_reducible rfl))
  simp only [List.getElem_toArray, List.getElem_cons_succ, List.getElem_cons_zero, Act.put, List.setIfInBounds_toArray, List.set_cons_zero, List.set_cons_succ]
  refine wpAnyH_take (i := 13) (v := ?v13) rfl (by kernel_rfl) (by kernel_rfl) (by kernel_rfl) (fun _ _ _ h => h) (Or.inl ⟨by rfl, ?y13⟩) hHeld ?r13
  case y13 => (intro W hSw; simp only [List.getElem_toArray, List.getElem_cons_succ, List.getElem_cons_zero]; go_simp; try (with_reducible rfl))
  simp only [List.getElem_toArray, List.getElem_cons_succ, List.getElem_cons_zero, Act.put, List.setIfInBounds_toArray, List.set_cons_zero, List.set_cons_succ]
  refine wpAnyH_take (i := 14) (v := ?v14) rfl (by kernel_rfl) (by kernel_rfl) (by kernel_rfl) (fun _ _ _ h => h) (Or.inl ⟨by rfl, ?y14⟩) hHeld ?r14
  case y14 => (intro W hSw; simp only [List.getElem_toArray, List.getElem_cons_succ, List.getElem_cons_zero]; go_simp; try (with_reducible rfl))
  simp only [List.getElem_toArray, List.getElem_cons_succ, List.getElem_cons_zero, Act.put, List.setIfInBounds_toArray, List.set_cons_zero, List.set_cons_succ]
  refine wpAnyH_take (i := 15) (v := ?v15) rfl (by kernel_rfl) (by kernel_rfl) (by kernel_rfl) (fun _ _ _ h => h) (Or.inl ⟨by rfl, ?y15⟩) hHeld ?r15
  case y15 => (intro W hSw; simp only [List.getElem_toArray, List.getElem_cons_succ, List.getElem_cons_zero]; go_simp; try (with_reducible rfl))
  simp only [List.getElem_toArray, List.getElem_cons_succ, List.getElem_cons_zero, Act.put, List.setIfInBounds_toArray, List.set_cons_zero, List.set_cons_succ]
  refine wpAnyH_take (i := 16) (v := ?v16) rfl (by kernel_rfl) (by kernel_rfl) (by kernel_rfl) (fun _ _ _ h => h) (Or.inl ⟨by rfl, ?y16⟩) hHeld ?r16
  case y16 => (intro W hSw; simp only [List.getElem_toArray, List.getElem_cons_succ, List.getElem_cons_zero]; go_simp; try (with_reducible rfl))
  simp only [List.getElem_toArray, List.getElem_cons_succ, List.getElem_cons_zero, Act.put, List.setIfInBounds_toArray, List.set_cons_zero, List.set_cons_succ]
  refine wpAnyH_take (i := 17) (v := ?v17) rfl (by kernel_rfl) (by kernel_rfl) (by kernel_rfl) (fun _ _ _ h => h) (Or.inl ⟨by rfl, ?y17⟩) hHeld ?r17
  case y17 => (intro W hSw; simp only [List.getElem_toArray, List.getElem_cons_succ, List.getElem_cons_zero]; go_simp; try (with_reducible rfl))
  simp only [List.getElem_toArray, List.getElem_cons_succ, List.getElem_cons_zero, Act.put, List.setIfInBounds_toArray, List.set_cons_zero, List.set_cons_succ]
  refine wpAnyH_take (i := 18) (v := ?v18) rfl (by kernel_rfl) (by kernel_rfl) (by kernel_rfl) (fun _ _ _ h => h) (Or.inl ⟨by rfl, ?y18⟩) hHeld ?r18
  case y18 => (intro W hSw; simp only [List.getElem_toArray, List.getElem_cons_succ, List.getElem_cons_zero]; go_simp; try (with_reducible rfl))
  simp only [List.getElem_toArray, List.getElem_cons_succ, List.getElem_cons_zero, Act.put, List.setIfInBounds_toArray, List.set_cons_zero, List.set_cons_succ]
  refine wpAnyH_take (i := 19) (v := ?v19) rfl (by kernel_rfl) (by kernel_rfl) (by kernel_rfl) (fun _ _ _ h => h) (Or.inl ⟨by rfl, ?y19⟩) hHeld ?r19
  case y19 => (intro W hSw; simp only [List.getElem_toArray, List.getElem_cons_succ, List.getElem_cons_zero]; go_simp; try (with_reducible rfl))
  simp only [List.getElem_toArray, List.getElem_cons_succ, List.getElem_cons_zero, Act.put, List.setIfInBounds_toArray, List.set_cons_zero, List.set_cons_succ]
  refine wpAnyH_take (i := 20) (v := ?v20) rfl (by kernel_rfl) (by kernel_rfl) (by kernel_rfl) (fun _ _ _ h => h) (Or.inl ⟨by rfl, ?y20⟩) hHeld ?r20
  case y20 => (intro W hSw; simp only [List.getElem_toArray, List.getElem_cons_succ, List.getElem_cons_zero]; go_simp; try (with_reducible rfl))
  simp only [List.getElem_toArray, List.getElem_cons_succ, List.getElem_cons_zero, Act.put, List.setIfInBounds_toArray, List.set_cons_zero, List.set_cons_succ]
  refine wpAnyH_ready (rs := [10]) (by kernel_rfl) (by simp) (AllReadyH.cons rfl (fun K hK => ?_) AllReadyH.nil)
  simp only [List.getElem_toArray, List.getElem_cons_succ, List.getElem_cons_zero]
  go_simp
  go_at_call 118; refine (between_any _ _ _).mono ?_; rintro e w1 ⟨n10, rfl, rfl⟩
  try go_wp2_with fail
  refine hK.out _ _ (by exact hHeld) (fun hHeld1 => ?_)
  clear hK K hHeld
  have hHeld := hHeld1; clear hHeld1
  try simp only [List.getElem_toArray, List.getElem_cons_succ, List.getElem_cons_zero, Act.put, List.setIfInBounds_toArray, List.set_cons_zero, List.set_cons_succ]
  refine wpAnyH_ready (rs := [21]) (by kernel_rfl) (by simp) (AllReadyH.cons rfl (fun K hK => ?_) AllReadyH.nil)
  simp only [List.getElem_toArray, List.getElem_cons_succ, List.getElem_cons_zero]
  go_simp
  go_at_call 118; refine (between_any _ _ _).mono ?_; rintro e w1 ⟨n21, rfl, rfl⟩
  try go_wp2_with fail
  refine hK.out _ _ (by exact hHeld) (fun hHeld1 => ?_)
  clear hK K hHeld
  have hHeld := hHeld1; clear hHeld1
  try simp only [List.getElem_toArray, List.getElem_cons_succ, List.getElem_cons_zero, Act.put, List.setIfInBounds_toArray, List.set_cons_zero, List.set_cons_succ]
  refine wpAnyH_take (i := 22) (v := ?v22) rfl (by kernel_rfl) (by kernel_rfl) (by kernel_rfl) (fun _ _ _ h => h) (Or.inl ⟨by rfl, ?y22⟩) hHeld ?r22
  case y22 => (intro W hSw; simp only [List.getElem_toArray, List.getElem_cons_succ, List.getElem_cons_zero]; go_simp; try (with_reducible rfl))
  simp only [List.getElem_toArray, List.getElem_cons_succ, List.getElem_cons_zero, Act.put, List.setIfInBounds_toArray, List.set_cons_zero, List.set_cons_succ]
  refine wpAnyH_take (i := 23) (v := ?v23) rfl (by kernel_rfl) (by kernel_rfl) (by kernel_rfl) (fun _ _ _ h => h) (Or.inl ⟨by rfl, ?y23⟩) hHeld ?r23
  case y23 => (intro W hSw; simp only [List.getElem_toArray, List.getElem_cons_succ, List.getElem_cons_zero]; go_simp; try (with_reducible rfl))
  simp only [List.getElem_toArray, List.getElem_cons_succ, List.getElem_cons_zero, Act.put, List.setIfInBounds_toArray, List.set_cons_zero, List.set_cons_succ]
  refine wpAnyH_done (by kernel_rfl) ?_ _
  have HZ := Lib.hid hHeld.2.2.2.2.2.2.2.2
  clear hHeld
  go_wp2_with fail
  go_ret
  exact ⟨_, rfl, BV.out.trans (HZ.out.mono BV.out.size)⟩
theorem far_any (a b : R4) (g : Nat) (w : World) (h : Rk w g) : Calls Tryz.prog 95 #[rv a, rv b, .pointer (some ⟨g, 0, none⟩)] w fun e w' => ∃ n : Int, e = .returned (.int .i64 n) ∧ Below w.heap.size w w' := by
  obtain ⟨⟨x1, y1, x2, y2⟩, _, hR⟩ := h
  dsimp only at hR
  obtain ⟨ax1, ay1, ax2, ay2⟩ := a
  obtain ⟨bx1, by1, bx2, by2⟩ := b
  unfold rv
  dsimp only
  obtain ⟨v, hv⟩ : ∃ v, v = (w.alloc (.cells #[.int .i64 ax1, .int .i64 ay1, .int .i64 ax2, .int .i64 ay2] 26)).alloc (.cells #[.int .i64 bx1, .int .i64 by1, .int .i64 bx2, .int .i64 by2] 26) := ⟨_, rfl⟩
  have hvs : (w.alloc (.cells #[.int .i64 ax1, .int .i64 ay1, .int .i64 ax2, .int .i64 ay2] 26)).alloc (.cells #[.int .i64 bx1, .int .i64 by1, .int .i64 bx2, .int .i64 by2] 26) = v := hv.symm
  have BV := Lib.hid (show Below w.heap.size w v by rw [hv]; exact below2 w _ _)
  have SV : w.heap.size + 1 < v.heap.size := by rw [hv]; simp
  have HS : Hid (∀ W, Below v.heap.size v W → W.cell? ⟨w.heap.size, 0, none⟩ = some (.int .i64 ax1) ∧ W.cell? ⟨w.heap.size, 1, none⟩ = some (.int .i64 ay1) ∧ W.cell? ⟨w.heap.size, 2, none⟩ = some (.int .i64 ax2) ∧ W.cell? ⟨w.heap.size, 3, none⟩ = some (.int .i64 ay2) ∧ W.cell? ⟨w.heap.size + 1, 0, none⟩ = some (.int .i64 bx1) ∧ W.cell? ⟨w.heap.size + 1, 1, none⟩ = some (.int .i64 by1) ∧ W.cell? ⟨w.heap.size + 1, 2, none⟩ = some (.int .i64 bx2) ∧ W.cell? ⟨w.heap.size + 1, 3, none⟩ = some (.int .i64 by2) ∧ W.cell? ⟨g, 0, none⟩ = some (.int .i64 x1) ∧ W.cell? ⟨g, 1, none⟩ = some (.int .i64 y1) ∧ W.cell? ⟨g, 2, none⟩ = some (.int .i64 x2) ∧ W.cell? ⟨g, 3, none⟩ = some (.int .i64 y2) ∧ Below v.heap.size v W) := Lib.hid fun W hB => by
    obtain ⟨g0, g1, g2, g3, _⟩ := (hR.later BV.out).later hB
    have q1 : ∀ x, W.cell? ⟨w.heap.size, x, none⟩ = v.cell? ⟨w.heap.size, x, none⟩ := fun x => World.cell?_of_block (w := v) (w' := W) (a := ⟨w.heap.size, x, none⟩) (hB.block w.heap.size (by omega))
    have q2 : ∀ x, W.cell? ⟨w.heap.size + 1, x, none⟩ = v.cell? ⟨w.heap.size + 1, x, none⟩ := fun x => World.cell?_of_block (w := v) (w' := W) (a := ⟨w.heap.size + 1, x, none⟩) (hB.block (w.heap.size + 1) SV)
    simp only [q1, q2]
    refine ⟨?_, ?_, ?_, ?_, ?_, ?_, ?_, ?_, g0, g1, g2, g3, hB⟩ <;> rw [hv] <;> simp
  have HV := Lib.hid hvs
  clear hv hvs SV hR
  go_enter Tryz.func95, Tryz.ntmps95
  go_wp2_with fail
  rw [HV.out]
  refine wp_region_held_drew (S := (fun W => W.cell? ⟨w.heap.size, 0, none⟩ = some (.int .i64 ax1) ∧ W.cell? ⟨w.heap.size, 1, none⟩ = some (.int .i64 ay1) ∧ W.cell? ⟨w.heap.size, 2, none⟩ = some (.int .i64 ax2) ∧ W.cell? ⟨w.heap.size, 3, none⟩ = some (.int .i64 ay2) ∧ W.cell? ⟨w.heap.size + 1, 0, none⟩ = some (.int .i64 bx1) ∧ W.cell? ⟨w.heap.size + 1, 1, none⟩ = some (.int .i64 by1) ∧ W.cell? ⟨w.heap.size + 1, 2, none⟩ = some (.int .i64 bx2) ∧ W.cell? ⟨w.heap.size + 1, 3, none⟩ = some (.int .i64 by2) ∧ W.cell? ⟨g, 0, none⟩ = some (.int .i64 x1) ∧ W.cell? ⟨g, 1, none⟩ = some (.int .i64 y1) ∧ W.cell? ⟨g, 2, none⟩ = some (.int .i64 x2) ∧ W.cell? ⟨g, 3, none⟩ = some (.int .i64 y2) ∧ Below v.heap.size v W)) (by kernel_rfl) (HS.out _ (Below.drew (Below.refl _ _))) (fun hHeld => ?_)
  refine wpAnyH_take (i := 0) (v := ?v0) rfl (by kernel_rfl) (by kernel_rfl) (by kernel_rfl) (fun _ _ _ h => h) (Or.inl ⟨by rfl, ?y0⟩) hHeld ?r0
  case y0 => (intro W hSw; simp only [List.getElem_toArray, List.getElem_cons_zero]; go_simp; try (with_reducible rfl))
  simp only [List.getElem_toArray, List.getElem_cons_zero, Act.put, List.setIfInBounds_toArray, List.set_cons_zero, List.set_cons_succ]
  refine wpAnyH_take (i := 1) (v := ?v1) rfl (by kernel_rfl) (by kernel_rfl) (by kernel_rfl) (fun _ _ _ h => h) (Or.inl ⟨by rfl, ?y1⟩) hHeld ?r1
  case y1 => (intro W hSw; simp only [List.getElem_toArray, List.getElem_cons_succ, List.getElem_cons_zero]; go_simp; try (with_reducible rfl))
  simp only [List.getElem_toArray, List.getElem_cons_succ, List.getElem_cons_zero, Act.put, List.setIfInBounds_toArray, List.set_cons_zero, List.set_cons_succ]
  refine wpAnyH_take (i := 3) (v := ?v3) rfl (by kernel_rfl) (by kernel_rfl) (by kernel_rfl) (fun _ _ _ h => h) (Or.inl ⟨by rfl, ?y3⟩) hHeld ?r3
  case y3 => (intro W hSw; simp only [List.getElem_toArray, List.getElem_cons_succ, List.getElem_cons_zero]; go_simp; try (with_reducible rfl))
  simp only [List.getElem_toArray, List.getElem_cons_succ, List.getElem_cons_zero, Act.put, List.setIfInBounds_toArray, List.set_cons_zero, List.set_cons_succ]
  refine wpAnyH_take (i := 4) (v := ?v4) rfl (by kernel_rfl) (by kernel_rfl) (by kernel_rfl) (fun _ _ _ h => h) (Or.inl ⟨by rfl, ?y4⟩) hHeld ?r4
  case y4 => (intro W hSw; simp only [List.getElem_toArray, List.getElem_cons_succ, List.getElem_cons_zero]; go_simp; try (with_reducible rfl))
  simp only [List.getElem_toArray, List.getElem_cons_succ, List.getElem_cons_zero, Act.put, List.setIfInBounds_toArray, List.set_cons_zero, List.set_cons_succ]
  refine wpAnyH_ready (rs := [2]) (by kernel_rfl) (by simp) (AllReadyH.cons rfl (fun K hK => ?_) AllReadyH.nil)
  simp only [List.getElem_toArray, List.getElem_cons_succ, List.getElem_cons_zero]
  go_simp
  go_at_call 97; refine (apart_any ⟨ax1, ay1, ax2, ay2⟩ ⟨x1, y1, x2, y2⟩ _).mono ?_; rintro e w2 ⟨n2, rfl, hb1⟩
  try go_wp2_with fail
  refine hK.out _ _ (by first | exact HS.out _ (hHeld.2.2.2.2.2.2.2.2.2.2.2.2.trans (hb1.mono hHeld.2.2.2.2.2.2.2.2.2.2.2.2.size)) | exact hHeld) (fun hHeld1 => ?_)
  clear hK K hHeld
  have hHeld := hHeld1; clear hHeld1
  try simp only [List.getElem_toArray, List.getElem_cons_succ, List.getElem_cons_zero, Act.put, List.setIfInBounds_toArray, List.set_cons_zero, List.set_cons_succ]
  clear hb1
  refine wpAnyH_ready (rs := [5]) (by kernel_rfl) (by simp) (AllReadyH.cons rfl (fun K hK => ?_) AllReadyH.nil)
  simp only [List.getElem_toArray, List.getElem_cons_succ, List.getElem_cons_zero]
  go_simp
  go_at_call 97; refine (apart_any ⟨bx1, by1, bx2, by2⟩ ⟨x1, y1, x2, y2⟩ _).mono ?_; rintro e w5 ⟨n5, rfl, hb1⟩
  try go_wp2_with fail
  refine hK.out _ _ (by exact HS.out _ (hHeld.2.2.2.2.2.2.2.2.2.2.2.2.trans (hb1.mono hHeld.2.2.2.2.2.2.2.2.2.2.2.2.size))) (fun hHeld1 => ?_)
  clear hK K hHeld
  have hHeld := hHeld1; clear hHeld1
  try simp only [List.getElem_toArray, List.getElem_cons_succ, List.getElem_cons_zero, Act.put, List.setIfInBounds_toArray, List.set_cons_zero, List.set_cons_succ]
  clear hb1
  refine wpAnyH_ready (rs := [6]) (by kernel_rfl) (by simp) (AllReadyH.cons rfl (fun K hK => ?_) AllReadyH.nil)
  simp only [List.getElem_toArray, List.getElem_cons_succ, List.getElem_cons_zero]
  go_simp
  go_at_call 96; refine (cmpI_any _ _ _).mono ?_; rintro e w6 ⟨n6, rfl, rfl⟩
  try go_wp2_with fail
  refine hK.out _ _ (by exact hHeld) (fun hHeld1 => ?_)
  clear hK K hHeld
  have hHeld := hHeld1; clear hHeld1
  try simp only [List.getElem_toArray, List.getElem_cons_succ, List.getElem_cons_zero, Act.put, List.setIfInBounds_toArray, List.set_cons_zero, List.set_cons_succ]
  refine wpAnyH_take (i := 7) (v := ?v7) rfl (by kernel_rfl) (by kernel_rfl) (by kernel_rfl) (fun _ _ _ h => h) (Or.inl ⟨by rfl, ?y7⟩) hHeld ?r7
  case y7 => (intro W hSw; simp only [List.getElem_toArray, List.getElem_cons_succ, List.getElem_cons_zero]; go_simp; try (with_reducible rfl))
  simp only [List.getElem_toArray, List.getElem_cons_succ, List.getElem_cons_zero, Act.put, List.setIfInBounds_toArray, List.set_cons_zero, List.set_cons_succ]
  refine wpAnyH_done (by kernel_rfl) ?_ _
  have HZ := Lib.hid hHeld.2.2.2.2.2.2.2.2.2.2.2.2
  clear hHeld
  go_wp2_with fail
  go_ret
  exact ⟨n6, rfl, BV.out.trans (HZ.out.mono BV.out.size)⟩
end Go.Proofs.YtobkgamcjfjghaaGreat.Rs
namespace Go.Proofs.YtobkgamcjfjghaaGreat.So
open Go.RowKit
set_option linter.unusedVariables false

/-- The row's cells hold d, and may be written. -/
abbrev HU (W : World) (blk off : Nat) (d : Array Int) : Prop := Sort.Holds (Value.int .u64) W blk off d
/-- W has come of w: nothing but the row's block has been written, and the row holds d. -/
def SU (w : World) (blk off : Nat) (d : Array Int) (W : World) : Prop := HU W blk off d ∧ w.grownBy W (some blk)

theorem grown_trans {a b c : World} {r : Option Nat} (h : a.grownBy b r) (k : b.grownBy c r) : a.grownBy c r :=
  ⟨k.os.trans h.os, k.tape.trans h.tape, k.output.trans h.output, Nat.le_trans h.size k.size,
    fun i hi hr => (k.block i (Nat.lt_of_lt_of_le hi h.size) hr).trans (h.block i hi hr)⟩
theorem grown_drewN {a b : World} {r : Option Nat} (h : a.grownBy b r) (n : Nat) : a.grownBy (b.drewN n) r := ⟨h.os, h.tape, h.output, h.size, h.block⟩
theorem grown_set {a b : World} {blk o : Nat} (h : a.grownBy b (some blk)) (v : Value) : a.grownBy (b.setCell ⟨blk, o, none⟩ v) (some blk) :=
  ⟨h.os, h.tape, h.output, by simpa using h.size, fun k hk hne => by
    rw [Below.heap_setCell b ⟨blk, o, none⟩ v k (fun e => hne (by rw [e]))]; exact h.block k hk hne⟩
theorem grown_any {a b : World} {r : Option Nat} (h : Below a.heap.size a b) : a.grownBy b r := ⟨h.os, h.tape, h.output, h.size, fun k hk _ => h.block k hk⟩

theorem SU.start {w : World} {blk off : Nat} {d : Array Int} (h : HU w blk off d) : SU w blk off d w := ⟨h, World.grownBy.refl _ _⟩
theorem SU.trans {w W V : World} {blk off : Nat} {d d' : Array Int} (h : SU w blk off d W) (k : SU W blk off d' V) : SU w blk off d' V := ⟨k.1, grown_trans h.2 k.2⟩
theorem SU.drewN {w W : World} {blk off : Nat} {d : Array Int} (h : SU w blk off d W) (n : Nat) : SU w blk off d (W.drewN n) := ⟨h.1, grown_drewN h.2 n⟩
theorem SU.drew {w W : World} {blk off : Nat} {d : Array Int} (h : SU w blk off d W) : SU w blk off d W.drew := ⟨h.1, grown_drewN h.2 1⟩
theorem SU.c {w W : World} {blk off : Nat} {d : Array Int} (h : SU w blk off d W) (t : Nat) (ht : t < d.size) : W.cell? ⟨blk, off + t, none⟩ = some (.int .u64 d[t]!) := (h.1 t ht).1
theorem SU.f {w W : World} {blk off : Nat} {d : Array Int} (h : SU w blk off d W) (t : Nat) (ht : t < d.size) : W.frozen? ⟨blk, off + t, none⟩ = false := (h.1 t ht).2
theorem HU.lt {W : World} {blk off : Nat} {d : Array Int} (h : HU W blk off d) (h0 : 0 < d.size) : blk < W.heap.size := World.block_lt_of_cell? W ⟨blk, off + 0, none⟩ (h 0 h0).1
theorem SU.swap {w W : World} {blk off : Nat} {d : Array Int} (h : SU w blk off d W) (i j : Nat) (hi : i < d.size) (hj : j < d.size) :
    SU w blk off (Sort.swp d i j) ((W.setCell ⟨blk, off + i, none⟩ (.int .u64 d[j]!)).setCell ⟨blk, off + j, none⟩ (.int .u64 d[i]!)) := by
  refine ⟨?_, grown_set (grown_set h.2 _) _⟩
  have e := Sort.putRow_swp (Value.int .u64) W blk off d i j hi hj
  rw [Sort.putRow_self _ W blk off d h.1] at e
  show Sort.Holds (Value.int .u64) _ blk off _
  rw [e]
  exact Sort.holds_putRow (Value.int .u64) W blk off d _ h.1 (Sort.size_swp d i j)
/-- As a walk leaves an exchange: draws ahead of it, one behind. -/
theorem SU.swapped {w W : World} {blk off : Nat} {d : Array Int} (h : SU w blk off d W) (i j : Nat) (hi : i < d.size) (hj : j < d.size) :
    SU w blk off (Sort.swp d i j) ((W.setCell ⟨blk, off + i, none⟩ (.int .u64 d[j]!)).setCell ⟨blk, off + j, none⟩ (.int .u64 d[i]!)).drew := (h.swap i j hi hj).drew
theorem SU.old {w W : World} {blk off : Nat} {d : Array Int} (h : SU w blk off d W) (i j : Nat) (hi : i < d.size) (hj : j < d.size) (v : Value) :
    ∃ u, (W.setCell ⟨blk, off + i, none⟩ v).cell? ⟨blk, off + j, none⟩ = some u := by
  by_cases e : i = j
  · subst e; exact ⟨v, World.cell?_setCell_same _ _ _ (h.c i hi)⟩
  · exact ⟨_, (World.cell?_setCell_other _ _ _ _ (by intro e'; simp only [Addr.mk.injEq] at e'; omega)).trans (h.c j hj)⟩
theorem SU.alloc {w W : World} {blk off : Nat} {d : Array Int} (h : SU w blk off d W) (hb : blk < W.heap.size) (o : Obj) : SU w blk off d (W.alloc o) :=
  ⟨fun t ht => by
    have e := Below.heap_alloc W o blk hb
    exact ⟨(World.cell?_of_block (w := W) (a := ⟨blk, off + t, none⟩) e).trans (h.c t ht), (World.frozen?_of_block (w := W) (a := ⟨blk, off + t, none⟩) e).trans (h.f t ht)⟩,
    grown_trans h.2 (World.grownBy_alloc W o _)⟩
/-- A block other than the row's is written, one that was not there at the beginning. -/
theorem SU.other {w W V : World} {blk off c : Nat} {d : Array Int} (h : SU w blk off d W) (hb : blk < W.heap.size) (hc : w.heap.size ≤ c) (hne : c ≠ blk) (hg : W.grownBy V (some c)) : SU w blk off d V := by
  have e : V.heap[blk]? = W.heap[blk]? := hg.block blk hb (by intro e; simp at e; exact hne e.symm)
  refine ⟨fun t ht => ⟨(World.cell?_of_block (w := W) (a := ⟨blk, off + t, none⟩) e).trans (h.c t ht), (World.frozen?_of_block (w := W) (a := ⟨blk, off + t, none⟩) e).trans (h.f t ht)⟩, ?_⟩
  exact ⟨hg.os.trans h.2.os, hg.tape.trans h.2.tape, hg.output.trans h.2.output, Nat.le_trans h.2.size hg.size, fun k hk hr =>
    (hg.block k (Nat.lt_of_lt_of_le hk h.2.size) (by intro e'; simp at e'; omega)).trans (h.2.block k hk hr)⟩
def nOf : Value → Nat | .int _ q => q.toNat | _ => 0
end Go.Proofs.YtobkgamcjfjghaaGreat.So
