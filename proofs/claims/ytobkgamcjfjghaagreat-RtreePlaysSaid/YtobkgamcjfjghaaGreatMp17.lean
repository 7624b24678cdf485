/-
  Contract of Tree.remove: an item is taken out of the tree. What is no part of the tree is left as it was.
-/
import Derived.Test.YtobkgamcjfjghaaGreatMp16
namespace Go.Proofs.YtobkgamcjfjghaaGreat.Rt
open Go.RowKit Go.Joins Go.Proofs.YtobkgamcjfjghaaGreat.Pt Go.Proofs.YtobkgamcjfjghaaGreat.Rc Go.Proofs.YtobkgamcjfjghaaGreat.Rs
set_option linter.unusedVariables false
set_option linter.unusedSimpArgs false
set_option maxHeartbeats 4000000
set_option maxRecDepth 100000
theorem remove_any (t o mb root x h : Nat) (dx : Pd) (σ : St) (V : Nat → Value) (G : List Nat) (w : World) (hM : Mem w σ V) (hT : TAt w t o mb root) (h1 : 4 ≤ o) (h2 : o ≤ 16) (ht : Tree σ (leastN o) o 2 h root [] G) (hx : σ x = some dx) (hl : dx.lvl = -1) (hr : may4 dx.r) (hxG : x ∈ G) (hG : G.length ≤ 2500) :
    Calls Tryz.prog 23 #[ptr t, ptr x] w (RmE o t mb x G w σ V) := by
  have LT := least_two h1 h2
  have hh : h ≤ 2500 := by have := ht.high LT.1 (by omega); omega
  obtain ⟨d, k1, k2, k3, k4, k5, k6, k7, k8⟩ := id ht
  have hxl : x ∈ lvs σ (h + 1) root := (k8.mem_iff).2 hxG
  have hk1 : 1 ≤ d.kids.length := by
    rw [lvs_self k1] at hxl
    cases hd : d.kids with
    | nil => rw [hd] at hxl; simp at hxl
    | cons a l => simp
  have CP := Lib.hid (pathTo_any x dx σ V (leastN o) o w hM hx hl hr (by omega) (by omega) h root d w k1 k2 k3 hk1 k5 (by omega) (Below.refl _ _))
  have HM := Lib.hid hM
  have HT := Lib.hid hT
  have HTR := Lib.hid ht
  have HXL := Lib.hid hxl
  have HG := Lib.hid hG
  obtain ⟨-, -, t2⟩ := hT.cells
  obtain ⟨i0, hi0, hz0, hz1, hz2⟩ := info_parts A.infoPp
  unfold ptr at CP t2 ⊢
  clear hM hT ht hx hl hr hxG hG k1 k2 k3 k4 k5 k6 k7 k8 hxl hk1 LT
  go_enter Tryz.func23, Tryz.ntmps23
  go_wp2_with fail
  refine Calls.mono CP.out ?_
  rintro e w1 ⟨hb1, ⟨hno, -⟩ | ⟨P, gp, cp, hway, hpl, rfl, hrow⟩⟩
  · exact absurd HXL.out hno
  obtain ⟨G0, r0, pg⟩ := RmS.start (dr := dx) HTR.out h1 h2 hway hpl
  have PG := Lib.hid pg
  have HPL := Lib.hid hpl
  have R1 := Lib.hid (show Rm1 o t mb h root gp P G0 w σ V (.slice none 0 0) (.pointer (some ⟨x, 0, none⟩)) (.int .i64 0) w1 from by
    refine ⟨0, σ, V, [], [x], x, rfl, rfl, Nat.zero_le _, r0, (Stp.refl t HM.out).below hb1, HT.out.later hb1, Kps.refl _ _, World.ownsRow_nil _ _ _ _, fun g hg => by simp [Value.ownBlock] at hg, fun i hi => ?_, ⟨(hrow.lt gp rfl).1, (hrow.lt gp rfl).2, fun hf => ?_⟩, by simp [Value.ownBlock], by simp⟩
    · rw [hrow.cellAt i (by omega), List.getElem?_map, List.getElem?_eq_getElem hi]
      rfl
    · have := HM.out.foot_lt hf
      have := (hrow.lt gp rfl).1
      omega)
  have hm3 : h + 1 ≤ 2501 := by omega
  have TLT := Lib.hid HT.out.lt
  clear hb1 hway hpl hrow r0 pg t2 CP
  go_wp2_with fail
  go_loopw [4, 5, 18] (fun v4 v5 v18 wr => Rm1 o t mb h root gp P G0 w σ V v4 v5 v18 wr) (fun _ _ v18 _ => h + 1 - (intOf v18).toNat)
  case atStart => exact R1.out
  case round =>
    clear R1
    obtain ⟨j, σ1, V1, Ts, Dr, l, rfl, rfl, hj, rm, st, tr, kp, row, ap, path, pgt, hne, hlen⟩ := hrel
    have RM := Lib.hid rm
    have ST := Lib.hid st
    have TR := Lib.hid tr
    have KP := Lib.hid kp
    have ROW := Lib.hid row
    have AP := Lib.hid ap
    have PATH := Lib.hid path
    have PGT := Lib.hid pgt
    have NE := Lib.hid hne
    by_cases hlt : j < h + 1
    · have hlz : (j : Int) < (h : Int) + 1 := by omega
      have hlz2 : (j : Int) < ((h + 1 : Nat) : Int) := by omega
      have hj0 : (0 : Int) ≤ (j : Int) := by omega
      have hjP : j < P.length := by rw [HPL.out]; exact hlt
      obtain ⟨d1, hd1, b1, b2, b3, b4, b5, b6, b7⟩ := rm.at hjP
      obtain ⟨-, el⟩ := rm.known
      have cp1 := path j hjP
      obtain ⟨n, hn⟩ : ∃ n, n = P[j]'hjP := ⟨_, rfl⟩
      rw [← hn] at hd1 b2 b4 b5 b6 cp1
      have HN := Lib.hid hn
      have HD := Lib.hid hd1
      have B2 := Lib.hid b2
      have B3 := Lib.hid b3
      have CL := Lib.hid (lose_any n l d1 σ1 V1 wr st.mem hd1 b2 (by omega) el)
      obtain ⟨ks, hks⟩ : ∃ ks, ks = d1.kids.filter (fun k => k != l) := ⟨_, rfl⟩
      rw [← hks] at CL
      have KS := Lib.hid hks
      have B5 := Lib.hid b5
      have B6 := Lib.hid b6
      have B7 := Lib.hid b7
      have B1 := Lib.hid b1
      have hkl : ks.length ≤ 16 := by rw [hks]; exact Nat.le_trans (List.length_filter_le _ _) (by omega)
      unfold ptr at CL cp1
      clear rm st tr kp row ap path pgt hne hd1 b1 b2 b3 b4 b5 b6 b7 el hn hks
      go_wp2_with fail
      refine Calls.mono CL.out ?_
      rintro e w2 ⟨rfl, s, hs, hM2, hk2⟩
      have S2 := Lib.hid (show Stp t wr σ1 V1 w2 (fitK σ1 n d1 ks) (updV V1 n s) from Stp.of_put ST.out.mem HD.out hM2 hk2 (fun k hk => Or.inl (by rw [← hs]; exact hk)))
      have TR2 := Lib.hid (show TAt w2 t o mb root from TR.out.keep hk2 (fun hx => TR.out.foot ST.out.mem (hx.elim (fun e => Or.inl ⟨d1, by rw [e]; exact HD.out⟩) (fun hx => Or.inr ⟨n, d1, HD.out, hx⟩))))
      obtain ⟨wd, hwd⟩ : ∃ v, v = w2.drew := ⟨_, rfl⟩
      have HWD := Lib.hid hwd
      have S3 := Lib.hid (show Stp t wr σ1 V1 wd (fitK σ1 n d1 ks) (updV V1 n s) by rw [hwd]; exact S2.out.below (Below.refl _ _).drew)
      have TR3 := Lib.hid (show TAt wd t o mb root by rw [hwd]; exact TR2.out.later (Below.refl _ _).drew)
      have PN := Lib.hid (S3.out.mem.part n _ (upd_same _ _ _))
      obtain ⟨A1, c1, hvn, -, -, hrn⟩ := PN.out.kids
      have HRN := Lib.hid hrn
      obtain ⟨z0, -, -, -, -, -, z6⟩ := PN.out.cells
      obtain ⟨t0, t1, t2⟩ := TR3.out.cells
      rw [hvn] at z6
      dsimp only at z6 hvn
      obtain ⟨nk, hnk⟩ : ∃ k, k = ks.length := ⟨_, rfl⟩
      rw [← hnk] at z6 hkl
      have NK := Lib.hid hnk
      have HVN := Lib.hid hvn
      have OBN : Ob wd n := S3.out.mem.ob ⟨_, upd_same _ _ _⟩
      have OBR : Ob wd root := S3.out.mem.ob (by
        by_cases e : root = n
        · rw [e]; exact ⟨_, upd_same _ _ _⟩
        · obtain ⟨x2, hx2⟩ := B7.out
          exact ⟨x2, by rw [show fitK σ1 n d1 ks root = σ1 root from upd_other _ _ e]; exact hx2⟩)
      have qq := ptr_neq OBN OBR
      unfold ptr at t2
      have CLE := Lib.hid (least_any t o mb root wd TR3.out h1 h2)
      unfold ptr at CLE
      -- what lies outside, behind the step
      have OUTP := Lib.hid (S3.out.out PGT.out.2.1 PGT.out.2.2 (by have := TLT.out; have := PGT.out.1; omega))
      have OUTR := Lib.hid (show ∀ g, u4.ownBlock = some g → wd.heap[g]? = wr.heap[g]? ∧ ¬ Foot (fitK σ1 n d1 ks) (updV V1 n s) g from fun g hg => by
        have := ROW.out.lt g hg
        exact S3.out.out this.2 (AP.out g hg) (by have := TLT.out; omega))
      have ROW3 := Lib.hid (own_same ROW.out (fun g hg => (OUTR.out g hg).1))
      have PATH3 := Lib.hid (show ∀ (i : Nat) (hi : i < P.length), wd.cell? ⟨gp, i, none⟩ = some (ptr P[i]) from fun i hi => (World.cell?_of_block (w := wr) (w' := wd) (a := ⟨gp, i, none⟩) OUTP.out.1).trans (PATH.out i hi))
      have KP3 := Lib.hid (KP.out.trans (Kps.upd (E := []) (d' := { d1 with r := hull σ1 ks, kids := ks }) HD.out (by rw [B1.out]; omega) (by simp)))
      have KEEP := Lib.hid (fun (hle : P.drop (j + 1) ≠ [] → leastN o ≤ nk) => show Rm1 o t mb h root gp P G0 w σ V u4 (.pointer (some ⟨l, 0, none⟩)) (.int .i64 ((j + 1 : Nat) : Int)) wd from by
        refine ⟨j + 1, _, _, Ts, Dr, l, rfl, rfl, hjP, ?_, ST.out.trans S3.out, TR3.out, KP3.out, ROW3.out, fun g hg => (OUTR.out g hg).2, PATH3.out, ⟨PGT.out.1, Nat.lt_of_lt_of_le PGT.out.2.1 S3.out.ke.size, OUTP.out.2⟩, NE.out, by omega⟩
        have := RM.out.keep h1 h2 HPL.out hjP (d := d1) (by rw [← HN.out]; exact HD.out) (fun e => by rw [← KS.out, ← NK.out]; exact hle e)
        rw [← KS.out, ← HN.out] at this
        exact this)
      clear hs hM2 hk2 hwd hvn hrn hnk OBN OBR CL cp1
      rcases drop_cases hjP with ⟨e1, e2⟩ | ⟨hj1, e1⟩
      · rw [show (n == root) = true by rw [B6.out e1]; simp] at qq
        have FIN := Lib.hid (KEEP.out (fun e => absurd e1 e))
        simp only [Bool.not_true] at qq
        go_wp2_with fail
        refine wp_region_held_drew (S := (fun W => W = wd)) (by kernel_rfl) (by rw [← HWD.out]) (fun hHeld => ?_)
        rw [← HWD.out] at hHeld ⊢
        refine wpAnyH_take (i := 0) (v := ?vA0) rfl (by kernel_rfl) (by kernel_rfl) (by kernel_rfl) (fun _ _ _ h => h) (Or.inl ⟨by rfl, ?yA0⟩) hHeld ?rA0
        case yA0 => (intro W hSw; subst hSw; simp only [List.getElem_toArray, List.getElem_cons_zero]; go_simp; try (with_reducible rfl))
        simp only [List.getElem_toArray, List.getElem_cons_zero, Act.put, List.setIfInBounds_toArray, List.set_cons_zero, List.set_cons_succ]
        refine wpAnyH_take (i := 1) (v := ?vA1) rfl (by kernel_rfl) (by kernel_rfl) (by kernel_rfl) (fun _ _ _ h => h) (Or.inl ⟨by rfl, ?yA1⟩) hHeld ?rA1
        case yA1 => (intro W hSw; subst hSw; simp only [List.getElem_toArray, List.getElem_cons_succ, List.getElem_cons_zero]; go_simp; try (with_reducible rfl))
        simp only [List.getElem_toArray, List.getElem_cons_succ, List.getElem_cons_zero, Act.put, List.setIfInBounds_toArray, List.set_cons_zero, List.set_cons_succ]
        refine wpAnyH_take (i := 2) (v := ?vA2) rfl (by kernel_rfl) (by kernel_rfl) (by kernel_rfl) (fun _ _ _ h => h) (Or.inl ⟨by rfl, ?yA2⟩) hHeld ?rA2
        case yA2 => (intro W hSw; subst hSw; simp only [List.getElem_toArray, List.getElem_cons_succ, List.getElem_cons_zero]; go_simp; try (with_reducible rfl))
        simp only [List.getElem_toArray, List.getElem_cons_succ, List.getElem_cons_zero, Act.put, List.setIfInBounds_toArray, List.set_cons_zero, List.set_cons_succ]
        refine wpAnyH_take (i := 3) (v := ?vA3) rfl (by kernel_rfl) (by kernel_rfl) (by kernel_rfl) (fun _ _ _ h => h) (Or.inl ⟨by rfl, ?yA3⟩) hHeld ?rA3
        case yA3 => (intro W hSw; subst hSw; simp only [List.getElem_toArray, List.getElem_cons_succ, List.getElem_cons_zero]; go_simp; try (with_reducible rfl))
        simp only [List.getElem_toArray, List.getElem_cons_succ, List.getElem_cons_zero, Act.put, List.setIfInBounds_toArray, List.set_cons_zero, List.set_cons_succ]
        refine wpAnyH_take (i := 4) (v := ?vA4) rfl (by kernel_rfl) (by kernel_rfl) (by kernel_rfl) (fun _ _ _ h => h) (Or.inl ⟨by rfl, ?yA4⟩) hHeld ?rA4
        case yA4 => (intro W hSw; subst hSw; simp only [List.getElem_toArray, List.getElem_cons_succ, List.getElem_cons_zero]; go_simp; try (with_reducible rfl))
        simp only [List.getElem_toArray, List.getElem_cons_succ, List.getElem_cons_zero, Act.put, List.setIfInBounds_toArray, List.set_cons_zero, List.set_cons_succ]
        refine wpAnyH_take (i := 5) (v := ?vA5) rfl (by kernel_rfl) (by kernel_rfl) (by kernel_rfl) (fun _ _ _ h => h) (Or.inl ⟨by rfl, ?yA5⟩) hHeld ?rA5
        case yA5 => (intro W hSw; subst hSw; simp only [List.getElem_toArray, List.getElem_cons_succ, List.getElem_cons_zero]; go_simp; try (with_reducible rfl))
        simp only [List.getElem_toArray, List.getElem_cons_succ, List.getElem_cons_zero, Act.put, List.setIfInBounds_toArray, List.set_cons_zero, List.set_cons_succ]
        refine wpAnyH_take (i := 6) (v := ?vA6) rfl (by kernel_rfl) (by kernel_rfl) (by kernel_rfl) (fun _ _ _ h => h) (Or.inl ⟨by rfl, ?yA6⟩) hHeld ?rA6
        case yA6 => (intro W hSw; subst hSw; simp only [List.getElem_toArray, List.getElem_cons_succ, List.getElem_cons_zero]; go_simp; try (with_reducible rfl))
        simp only [List.getElem_toArray, List.getElem_cons_succ, List.getElem_cons_zero, Act.put, List.setIfInBounds_toArray, List.set_cons_zero, List.set_cons_succ]
        refine wpAnyH_take (i := 7) (v := undef) rfl (by kernel_rfl) (by kernel_rfl) (by kernel_rfl) (fun _ _ _ h => h) (Or.inr ⟨by rfl, rfl⟩) hHeld ?_
        simp only [List.getElem_toArray, List.getElem_cons_succ, List.getElem_cons_zero, Act.put, List.setIfInBounds_toArray, List.set_cons_zero, List.set_cons_succ]
        refine wpAnyH_take (i := 8) (v := undef) rfl (by kernel_rfl) (by kernel_rfl) (by kernel_rfl) (fun _ _ _ h => h) (Or.inr ⟨by rfl, rfl⟩) hHeld ?_
        simp only [List.getElem_toArray, List.getElem_cons_succ, List.getElem_cons_zero, Act.put, List.setIfInBounds_toArray, List.set_cons_zero, List.set_cons_succ]
        refine wpAnyH_take (i := 9) (v := undef) rfl (by kernel_rfl) (by kernel_rfl) (by kernel_rfl) (fun _ _ _ h => h) (Or.inr ⟨by rfl, rfl⟩) hHeld ?_
        simp only [List.getElem_toArray, List.getElem_cons_succ, List.getElem_cons_zero, Act.put, List.setIfInBounds_toArray, List.set_cons_zero, List.set_cons_succ]
        refine wpAnyH_take (i := 10) (v := undef) rfl (by kernel_rfl) (by kernel_rfl) (by kernel_rfl) (fun _ _ _ h => h) (Or.inr ⟨by rfl, rfl⟩) hHeld ?_
        simp only [List.getElem_toArray, List.getElem_cons_succ, List.getElem_cons_zero, Act.put, List.setIfInBounds_toArray, List.set_cons_zero, List.set_cons_succ]
        refine wpAnyH_take (i := 11) (v := undef) rfl (by kernel_rfl) (by kernel_rfl) (by kernel_rfl) (fun _ _ _ h => h) (Or.inr ⟨by rfl, rfl⟩) hHeld ?_
        simp only [List.getElem_toArray, List.getElem_cons_succ, List.getElem_cons_zero, Act.put, List.setIfInBounds_toArray, List.set_cons_zero, List.set_cons_succ]
        refine wpAnyH_take (i := 12) (v := undef) rfl (by kernel_rfl) (by kernel_rfl) (by kernel_rfl) (fun _ _ _ h => h) (Or.inr ⟨by rfl, rfl⟩) hHeld ?_
        simp only [List.getElem_toArray, List.getElem_cons_succ, List.getElem_cons_zero, Act.put, List.setIfInBounds_toArray, List.set_cons_zero, List.set_cons_succ]
        refine wpAnyH_take (i := 13) (v := undef) rfl (by kernel_rfl) (by kernel_rfl) (by kernel_rfl) (fun _ _ _ h => h) (Or.inr ⟨by rfl, rfl⟩) hHeld ?_
        simp only [List.getElem_toArray, List.getElem_cons_succ, List.getElem_cons_zero, Act.put, List.setIfInBounds_toArray, List.set_cons_zero, List.set_cons_succ]
        refine wpAnyH_take (i := 14) (v := undef) rfl (by kernel_rfl) (by kernel_rfl) (by kernel_rfl) (fun _ _ _ h => h) (Or.inr ⟨by rfl, rfl⟩) hHeld ?_
        simp only [List.getElem_toArray, List.getElem_cons_succ, List.getElem_cons_zero, Act.put, List.setIfInBounds_toArray, List.set_cons_zero, List.set_cons_succ]
        refine wpAnyH_take (i := 15) (v := ?vA15) rfl (by kernel_rfl) (by kernel_rfl) (by kernel_rfl) (fun _ _ _ h => h) (Or.inl ⟨by rfl, ?yA15⟩) hHeld ?rA15
        case yA15 => (intro W hSw; subst hSw; simp only [List.getElem_toArray, List.getElem_cons_succ, List.getElem_cons_zero]; go_simp; try (with_reducible rfl))
        simp only [List.getElem_toArray, List.getElem_cons_succ, List.getElem_cons_zero, Act.put, List.setIfInBounds_toArray, List.set_cons_zero, List.set_cons_succ]
        refine wpAnyH_done (by kernel_rfl) ?_ _
        go_wp2_with fail
        go_roundw
        case rel =>
          obtain ⟨q1, q2, q3, q4, q5, q6, e, r⟩ := FIN.out
          exact ⟨q1, q2, q3, q4, q5, q6, by rw [← e]; go_num, r⟩
        case measure => simp [intOf]; omega
      · have hnr : (n == root) = false := by
          have := B5.out (by rw [e1]; exact List.cons_ne_nil _ _)
          simp
          exact fun e => this e.symm
        rw [hnr] at qq
        simp only [Bool.not_false] at qq
        by_cases hle : leastN o ≤ nk
        · have FIN := Lib.hid (KEEP.out (fun _ => hle))
          have hlez : ¬ (nk : Int) < ((leastN o : Nat) : Int) := by omega
          have hlez2 : ¬ nk < leastN o := by omega
          go_wp2_with fail
          refine wp_region_held_drew (S := (fun W => W = wd)) (by kernel_rfl) (by rw [← HWD.out]) (fun hHeld => ?_)
          rw [← HWD.out] at hHeld ⊢
          refine wpAnyH_take (i := 0) (v := ?vB0) rfl (by kernel_rfl) (by kernel_rfl) (by kernel_rfl) (fun _ _ _ h => h) (Or.inl ⟨by rfl, ?yB0⟩) hHeld ?rB0
          case yB0 => (intro W hSw; subst hSw; simp only [List.getElem_toArray, List.getElem_cons_zero]; go_simp; try (with_reducible rfl))
          simp only [List.getElem_toArray, List.getElem_cons_zero, Act.put, List.setIfInBounds_toArray, List.set_cons_zero, List.set_cons_succ]
          refine wpAnyH_take (i := 1) (v := ?vB1) rfl (by kernel_rfl) (by kernel_rfl) (by kernel_rfl) (fun _ _ _ h => h) (Or.inl ⟨by rfl, ?yB1⟩) hHeld ?rB1
          case yB1 => (intro W hSw; subst hSw; simp only [List.getElem_toArray, List.getElem_cons_succ, List.getElem_cons_zero]; go_simp; try (with_reducible rfl))
          simp only [List.getElem_toArray, List.getElem_cons_succ, List.getElem_cons_zero, Act.put, List.setIfInBounds_toArray, List.set_cons_zero, List.set_cons_succ]
          refine wpAnyH_take (i := 2) (v := ?vB2) rfl (by kernel_rfl) (by kernel_rfl) (by kernel_rfl) (fun _ _ _ h => h) (Or.inl ⟨by rfl, ?yB2⟩) hHeld ?rB2
          case yB2 => (intro W hSw; subst hSw; simp only [List.getElem_toArray, List.getElem_cons_succ, List.getElem_cons_zero]; go_simp; try (with_reducible rfl))
          simp only [List.getElem_toArray, List.getElem_cons_succ, List.getElem_cons_zero, Act.put, List.setIfInBounds_toArray, List.set_cons_zero, List.set_cons_succ]
          refine wpAnyH_take (i := 3) (v := ?vB3) rfl (by kernel_rfl) (by kernel_rfl) (by kernel_rfl) (fun _ _ _ h => h) (Or.inl ⟨by rfl, ?yB3⟩) hHeld ?rB3
          case yB3 => (intro W hSw; subst hSw; simp only [List.getElem_toArray, List.getElem_cons_succ, List.getElem_cons_zero]; go_simp; try (with_reducible rfl))
          simp only [List.getElem_toArray, List.getElem_cons_succ, List.getElem_cons_zero, Act.put, List.setIfInBounds_toArray, List.set_cons_zero, List.set_cons_succ]
          refine wpAnyH_take (i := 4) (v := ?vB4) rfl (by kernel_rfl) (by kernel_rfl) (by kernel_rfl) (fun _ _ _ h => h) (Or.inl ⟨by rfl, ?yB4⟩) hHeld ?rB4
          case yB4 => (intro W hSw; subst hSw; simp only [List.getElem_toArray, List.getElem_cons_succ, List.getElem_cons_zero]; go_simp; try (with_reducible rfl))
          simp only [List.getElem_toArray, List.getElem_cons_succ, List.getElem_cons_zero, Act.put, List.setIfInBounds_toArray, List.set_cons_zero, List.set_cons_succ]
          refine wpAnyH_take (i := 5) (v := ?vB5) rfl (by kernel_rfl) (by kernel_rfl) (by kernel_rfl) (fun _ _ _ h => h) (Or.inl ⟨by rfl, ?yB5⟩) hHeld ?rB5
          case yB5 => (intro W hSw; subst hSw; simp only [List.getElem_toArray, List.getElem_cons_succ, List.getElem_cons_zero]; go_simp; try (with_reducible rfl))
          simp only [List.getElem_toArray, List.getElem_cons_succ, List.getElem_cons_zero, Act.put, List.setIfInBounds_toArray, List.set_cons_zero, List.set_cons_succ]
          refine wpAnyH_take (i := 6) (v := ?vB6) rfl (by kernel_rfl) (by kernel_rfl) (by kernel_rfl) (fun _ _ _ h => h) (Or.inl ⟨by rfl, ?yB6⟩) hHeld ?rB6
          case yB6 => (intro W hSw; subst hSw; simp only [List.getElem_toArray, List.getElem_cons_succ, List.getElem_cons_zero]; go_simp; try (with_reducible rfl))
          simp only [List.getElem_toArray, List.getElem_cons_succ, List.getElem_cons_zero, Act.put, List.setIfInBounds_toArray, List.set_cons_zero, List.set_cons_succ]
          refine wpAnyH_take (i := 7) (v := ?vB7) rfl (by kernel_rfl) (by kernel_rfl) (by kernel_rfl) (fun _ _ _ h => h) (Or.inl ⟨by rfl, ?yB7⟩) hHeld ?rB7
          case yB7 => (intro W hSw; subst hSw; simp only [List.getElem_toArray, List.getElem_cons_succ, List.getElem_cons_zero]; go_simp; try (with_reducible rfl))
          simp only [List.getElem_toArray, List.getElem_cons_succ, List.getElem_cons_zero, Act.put, List.setIfInBounds_toArray, List.set_cons_zero, List.set_cons_succ]
          refine wpAnyH_take (i := 8) (v := ?vB8) rfl (by kernel_rfl) (by kernel_rfl) (by kernel_rfl) (fun _ _ _ h => h) (Or.inl ⟨by rfl, ?yB8⟩) hHeld ?rB8
          case yB8 => (intro W hSw; subst hSw; simp only [List.getElem_toArray, List.getElem_cons_succ, List.getElem_cons_zero]; go_simp; try (with_reducible rfl))
          simp only [List.getElem_toArray, List.getElem_cons_succ, List.getElem_cons_zero, Act.put, List.setIfInBounds_toArray, List.set_cons_zero, List.set_cons_succ]
          refine wpAnyH_take (i := 9) (v := ?vB9) rfl (by kernel_rfl) (by kernel_rfl) (by kernel_rfl) (fun _ _ _ h => h) (Or.inl ⟨by rfl, ?yB9⟩) hHeld ?rB9
          case yB9 => (intro W hSw; subst hSw; simp only [List.getElem_toArray, List.getElem_cons_succ, List.getElem_cons_zero]; go_simp; try (with_reducible rfl))
          simp only [List.getElem_toArray, List.getElem_cons_succ, List.getElem_cons_zero, Act.put, List.setIfInBounds_toArray, List.set_cons_zero, List.set_cons_succ]
          refine wpAnyH_take (i := 10) (v := ?vB10) rfl (by kernel_rfl) (by kernel_rfl) (by kernel_rfl) (fun _ _ _ h => h) (Or.inl ⟨by rfl, ?yB10⟩) hHeld ?rB10
          case yB10 => (intro W hSw; subst hSw; simp only [List.getElem_toArray, List.getElem_cons_succ, List.getElem_cons_zero]; go_simp; try (with_reducible rfl))
          simp only [List.getElem_toArray, List.getElem_cons_succ, List.getElem_cons_zero, Act.put, List.setIfInBounds_toArray, List.set_cons_zero, List.set_cons_succ]
          refine wpAnyH_take (i := 11) (v := ?vB11) rfl (by kernel_rfl) (by kernel_rfl) (by kernel_rfl) (fun _ _ _ h => h) (Or.inl ⟨by rfl, ?yB11⟩) hHeld ?rB11
          case yB11 => (intro W hSw; subst hSw; simp only [List.getElem_toArray, List.getElem_cons_succ, List.getElem_cons_zero]; go_simp; try (with_reducible rfl))
          simp only [List.getElem_toArray, List.getElem_cons_succ, List.getElem_cons_zero, Act.put, List.setIfInBounds_toArray, List.set_cons_zero, List.set_cons_succ]
          refine wpAnyH_take (i := 12) (v := ?vB12) rfl (by kernel_rfl) (by kernel_rfl) (by kernel_rfl) (fun _ _ _ h => h) (Or.inl ⟨by rfl, ?yB12⟩) hHeld ?rB12
          case yB12 => (intro W hSw; subst hSw; simp only [List.getElem_toArray, List.getElem_cons_succ, List.getElem_cons_zero]; go_simp; try (with_reducible rfl))
          simp only [List.getElem_toArray, List.getElem_cons_succ, List.getElem_cons_zero, Act.put, List.setIfInBounds_toArray, List.set_cons_zero, List.set_cons_succ]
          refine wpAnyH_ready (rs := [13]) (by kernel_rfl) (by simp) (AllReadyH.cons rfl (fun K hK => ?_) AllReadyH.nil)
          simp only [List.getElem_toArray, List.getElem_cons_succ, List.getElem_cons_zero]
          go_simp
          (go_at_call 38; refine Calls.mono CLE.out ?_; rintro e w9 ⟨rfl, ew9⟩; subst ew9)
          try go_wp2_with fail
          refine hK.out _ _ (rfl) (fun hHeld1 => ?_)
          clear hK K hHeld
          have hHeld := hHeld1; clear hHeld1
          try simp only [List.getElem_toArray, List.getElem_cons_succ, List.getElem_cons_zero, Act.put, List.setIfInBounds_toArray, List.set_cons_zero, List.set_cons_succ]
          refine wpAnyH_take (i := 14) (v := ?vB14) rfl (by kernel_rfl) (by kernel_rfl) (by kernel_rfl) (fun _ _ _ h => h) (Or.inl ⟨by rfl, ?yB14⟩) hHeld ?rB14
          case yB14 => (intro W hSw; subst hSw; simp only [List.getElem_toArray, List.getElem_cons_succ, List.getElem_cons_zero]; go_simp; try (with_reducible rfl))
          simp only [List.getElem_toArray, List.getElem_cons_succ, List.getElem_cons_zero, Act.put, List.setIfInBounds_toArray, List.set_cons_zero, List.set_cons_succ]
          refine wpAnyH_take (i := 15) (v := ?vB15) rfl (by kernel_rfl) (by kernel_rfl) (by kernel_rfl) (fun _ _ _ h => h) (Or.inl ⟨by rfl, ?yB15⟩) hHeld ?rB15
          case yB15 => (intro W hSw; subst hSw; simp only [List.getElem_toArray, List.getElem_cons_succ, List.getElem_cons_zero]; go_simp; try (with_reducible rfl))
          simp only [List.getElem_toArray, List.getElem_cons_succ, List.getElem_cons_zero, Act.put, List.setIfInBounds_toArray, List.set_cons_zero, List.set_cons_succ]
          refine wpAnyH_done (by kernel_rfl) ?_ _
          go_wp2_with fail
          go_roundw
          case rel =>
            obtain ⟨q1, q2, q3, q4, q5, q6, e, r⟩ := FIN.out
            exact ⟨q1, q2, q3, q4, q5, q6, by rw [← e]; go_num, r⟩
          case measure => simp [intOf]; omega
        · have hlez : (nk : Int) < ((leastN o : Nat) : Int) := by omega
          have hlez2 : nk < leastN o := by omega
          have one := RM.out.one h1 h2 hjP (by rw [e1]; exact List.cons_ne_nil _ _) (d := d1) (by rw [← HN.out]; exact HD.out)
          rw [← KS.out, ← NK.out] at one
          obtain ⟨g1, rfl, hg1, cells1⟩ := HRN.out (by show 0 < ks.length; rw [← NK.out]; exact one)
          have NEWS := Lib.hid (show ∀ i u, (ks.map ptr)[i]? = some u → wd.cell? ((⟨g1, 0, none⟩ : Addr).add i) = some u from fun i u hu => by
            rw [List.getElem?_map] at hu
            cases hi : ks[i]? with
            | none => rw [hi] at hu; cases hu
            | some k =>
              rw [hi] at hu
              cases hu
              obtain ⟨hlt9, e9⟩ := List.getElem?_eq_some_iff.1 hi
              have := cells1 i hlt9
              rw [show (⟨g1, 0, none⟩ : Addr).add i = ⟨g1, i, none⟩ from by unfold Addr.add; by_cases e : i = 0 <;> simp [e], this]
              exact congrArg (fun k => some (ptr k)) e9)
          have ONE := Lib.hid (show ∀ u ∈ ks.map ptr, u.oneCell' = true from fun u hu => by
            obtain ⟨k, _, rfl⟩ := List.mem_map.1 hu
            rfl)
          have KL := Lib.hid (show (ks.map ptr).length = nk * 1 by rw [List.length_map, NK.out, Nat.mul_one])
          have SZ := Lib.hid (show w.heap.size ≤ wd.heap.size from Nat.le_trans ST.out.ke.size S3.out.ke.size)
          have DR := Lib.hid (show RmS o h root P G0 (j + 1) (fitK σ1 n d1 ks) (Ts ++ ks.map fun k => (k, j)) (n :: Dr) n from by
            have := RM.out.drop h1 h2 HPL.out hjP hj1 (d := d1) (by rw [← HN.out]; exact HD.out) (by rw [← KS.out, ← NK.out]; exact hlez2)
            rw [← KS.out, ← HN.out] at this
            exact this)
          have FN := Lib.hid (fun (v' : Value) (W : World) (hrow : W.ownsRow w.heap.size 61 1 v' (Ts.length + nk) ((Ts.map Prod.fst).map ptr ++ ks.map ptr)) (gr : wd.grownBy W u4.ownBlock) (hat : v'.ownBlock = u4.ownBlock ∨ v'.ownBlock = some wd.heap.size) => show Rm1 o t mb h root gp P G0 w σ V v' (.pointer (some ⟨n, 0, none⟩)) (.int .i64 ((j + 1 : Nat) : Int)) W from by
            have em : (ks.map fun k => (k, j)).map Prod.fst = ks := by simp [Function.comp_def]
            refine Rm1.of hjP DR.out (ST.out.trans S3.out) TR3.out TLT.out KP3.out gr (fun g hg => ⟨(ROW.out.lt g hg).1, (OUTR.out g hg).2⟩) ?_ hat PATH3.out ⟨PGT.out.1, Nat.lt_of_lt_of_le PGT.out.2.1 S3.out.ke.size, OUTP.out.2⟩ NE.out ?_
            · rw [List.length_append, List.length_map, List.map_append, List.map_append, em, ← NK.out]
              exact hrow
            · rw [List.length_append, List.length_map, ← NK.out]
              omega)
          clear KEEP hg1 cells1 e1
          go_wp2_with fail
          refine wp_region_held_drew (S := (fun W => W = wd)) (by kernel_rfl) (by rw [← HWD.out]) (fun hHeld => ?_)
          rw [← HWD.out] at hHeld ⊢
          refine wpAnyH_take (i := 0) (v := ?vC0) rfl (by kernel_rfl) (by kernel_rfl) (by kernel_rfl) (fun _ _ _ h => h) (Or.inl ⟨by rfl, ?yC0⟩) hHeld ?rC0
          case yC0 => (intro W hSw; subst hSw; simp only [List.getElem_toArray, List.getElem_cons_zero]; go_simp; try (with_reducible rfl))
          simp only [List.getElem_toArray, List.getElem_cons_zero, Act.put, List.setIfInBounds_toArray, List.set_cons_zero, List.set_cons_succ]
          refine wpAnyH_take (i := 1) (v := ?vC1) rfl (by kernel_rfl) (by kernel_rfl) (by kernel_rfl) (fun _ _ _ h => h) (Or.inl ⟨by rfl, ?yC1⟩) hHeld ?rC1
          case yC1 => (intro W hSw; subst hSw; simp only [List.getElem_toArray, List.getElem_cons_succ, List.getElem_cons_zero]; go_simp; try (with_reducible rfl))
          simp only [List.getElem_toArray, List.getElem_cons_succ, List.getElem_cons_zero, Act.put, List.setIfInBounds_toArray, List.set_cons_zero, List.set_cons_succ]
          refine wpAnyH_take (i := 2) (v := ?vC2) rfl (by kernel_rfl) (by kernel_rfl) (by kernel_rfl) (fun _ _ _ h => h) (Or.inl ⟨by rfl, ?yC2⟩) hHeld ?rC2
          case yC2 => (intro W hSw; subst hSw; simp only [List.getElem_toArray, List.getElem_cons_succ, List.getElem_cons_zero]; go_simp; try (with_reducible rfl))
          simp only [List.getElem_toArray, List.getElem_cons_succ, List.getElem_cons_zero, Act.put, List.setIfInBounds_toArray, List.set_cons_zero, List.set_cons_succ]
          refine wpAnyH_take (i := 3) (v := ?vC3) rfl (by kernel_rfl) (by kernel_rfl) (by kernel_rfl) (fun _ _ _ h => h) (Or.inl ⟨by rfl, ?yC3⟩) hHeld ?rC3
          case yC3 => (intro W hSw; subst hSw; simp only [List.getElem_toArray, List.getElem_cons_succ, List.getElem_cons_zero]; go_simp; try (with_reducible rfl))
          simp only [List.getElem_toArray, List.getElem_cons_succ, List.getElem_cons_zero, Act.put, List.setIfInBounds_toArray, List.set_cons_zero, List.set_cons_succ]
          refine wpAnyH_take (i := 4) (v := ?vC4) rfl (by kernel_rfl) (by kernel_rfl) (by kernel_rfl) (fun _ _ _ h => h) (Or.inl ⟨by rfl, ?yC4⟩) hHeld ?rC4
          case yC4 => (intro W hSw; subst hSw; simp only [List.getElem_toArray, List.getElem_cons_succ, List.getElem_cons_zero]; go_simp; try (with_reducible rfl))
          simp only [List.getElem_toArray, List.getElem_cons_succ, List.getElem_cons_zero, Act.put, List.setIfInBounds_toArray, List.set_cons_zero, List.set_cons_succ]
          refine wpAnyH_take (i := 5) (v := ?vC5) rfl (by kernel_rfl) (by kernel_rfl) (by kernel_rfl) (fun _ _ _ h => h) (Or.inl ⟨by rfl, ?yC5⟩) hHeld ?rC5
          case yC5 => (intro W hSw; subst hSw; simp only [List.getElem_toArray, List.getElem_cons_succ, List.getElem_cons_zero]; go_simp; try (with_reducible rfl))
          simp only [List.getElem_toArray, List.getElem_cons_succ, List.getElem_cons_zero, Act.put, List.setIfInBounds_toArray, List.set_cons_zero, List.set_cons_succ]
          refine wpAnyH_take (i := 6) (v := ?vC6) rfl (by kernel_rfl) (by kernel_rfl) (by kernel_rfl) (fun _ _ _ h => h) (Or.inl ⟨by rfl, ?yC6⟩) hHeld ?rC6
          case yC6 => (intro W hSw; subst hSw; simp only [List.getElem_toArray, List.getElem_cons_succ, List.getElem_cons_zero]; go_simp; try (with_reducible rfl))
          simp only [List.getElem_toArray, List.getElem_cons_succ, List.getElem_cons_zero, Act.put, List.setIfInBounds_toArray, List.set_cons_zero, List.set_cons_succ]
          refine wpAnyH_take (i := 7) (v := ?vC7) rfl (by kernel_rfl) (by kernel_rfl) (by kernel_rfl) (fun _ _ _ h => h) (Or.inl ⟨by rfl, ?yC7⟩) hHeld ?rC7
          case yC7 => (intro W hSw; subst hSw; simp only [List.getElem_toArray, List.getElem_cons_succ, List.getElem_cons_zero]; go_simp; try (with_reducible rfl))
          simp only [List.getElem_toArray, List.getElem_cons_succ, List.getElem_cons_zero, Act.put, List.setIfInBounds_toArray, List.set_cons_zero, List.set_cons_succ]
          refine wpAnyH_take (i := 8) (v := ?vC8) rfl (by kernel_rfl) (by kernel_rfl) (by kernel_rfl) (fun _ _ _ h => h) (Or.inl ⟨by rfl, ?yC8⟩) hHeld ?rC8
          case yC8 => (intro W hSw; subst hSw; simp only [List.getElem_toArray, List.getElem_cons_succ, List.getElem_cons_zero]; go_simp; try (with_reducible rfl))
          simp only [List.getElem_toArray, List.getElem_cons_succ, List.getElem_cons_zero, Act.put, List.setIfInBounds_toArray, List.set_cons_zero, List.set_cons_succ]
          refine wpAnyH_take (i := 9) (v := ?vC9) rfl (by kernel_rfl) (by kernel_rfl) (by kernel_rfl) (fun _ _ _ h => h) (Or.inl ⟨by rfl, ?yC9⟩) hHeld ?rC9
          case yC9 => (intro W hSw; subst hSw; simp only [List.getElem_toArray, List.getElem_cons_succ, List.getElem_cons_zero]; go_simp; try (with_reducible rfl))
          simp only [List.getElem_toArray, List.getElem_cons_succ, List.getElem_cons_zero, Act.put, List.setIfInBounds_toArray, List.set_cons_zero, List.set_cons_succ]
          refine wpAnyH_take (i := 10) (v := ?vC10) rfl (by kernel_rfl) (by kernel_rfl) (by kernel_rfl) (fun _ _ _ h => h) (Or.inl ⟨by rfl, ?yC10⟩) hHeld ?rC10
          case yC10 => (intro W hSw; subst hSw; simp only [List.getElem_toArray, List.getElem_cons_succ, List.getElem_cons_zero]; go_simp; try (with_reducible rfl))
          simp only [List.getElem_toArray, List.getElem_cons_succ, List.getElem_cons_zero, Act.put, List.setIfInBounds_toArray, List.set_cons_zero, List.set_cons_succ]
          refine wpAnyH_take (i := 11) (v := ?vC11) rfl (by kernel_rfl) (by kernel_rfl) (by kernel_rfl) (fun _ _ _ h => h) (Or.inl ⟨by rfl, ?yC11⟩) hHeld ?rC11
          case yC11 => (intro W hSw; subst hSw; simp only [List.getElem_toArray, List.getElem_cons_succ, List.getElem_cons_zero]; go_simp; try (with_reducible rfl))
          simp only [List.getElem_toArray, List.getElem_cons_succ, List.getElem_cons_zero, Act.put, List.setIfInBounds_toArray, List.set_cons_zero, List.set_cons_succ]
          refine wpAnyH_take (i := 12) (v := ?vC12) rfl (by kernel_rfl) (by kernel_rfl) (by kernel_rfl) (fun _ _ _ h => h) (Or.inl ⟨by rfl, ?yC12⟩) hHeld ?rC12
          case yC12 => (intro W hSw; subst hSw; simp only [List.getElem_toArray, List.getElem_cons_succ, List.getElem_cons_zero]; go_simp; try (with_reducible rfl))
          simp only [List.getElem_toArray, List.getElem_cons_succ, List.getElem_cons_zero, Act.put, List.setIfInBounds_toArray, List.set_cons_zero, List.set_cons_succ]
          refine wpAnyH_ready (rs := [13]) (by kernel_rfl) (by simp) (AllReadyH.cons rfl (fun K hK => ?_) AllReadyH.nil)
          simp only [List.getElem_toArray, List.getElem_cons_succ, List.getElem_cons_zero]
          go_simp
          (go_at_call 38; refine Calls.mono CLE.out ?_; rintro e w9 ⟨rfl, ew9⟩; subst ew9)
          try go_wp2_with fail
          refine hK.out _ _ (rfl) (fun hHeld1 => ?_)
          clear hK K hHeld
          have hHeld := hHeld1; clear hHeld1
          try simp only [List.getElem_toArray, List.getElem_cons_succ, List.getElem_cons_zero, Act.put, List.setIfInBounds_toArray, List.set_cons_zero, List.set_cons_succ]
          refine wpAnyH_take (i := 14) (v := ?vC14) rfl (by kernel_rfl) (by kernel_rfl) (by kernel_rfl) (fun _ _ _ h => h) (Or.inl ⟨by rfl, ?yC14⟩) hHeld ?rC14
          case yC14 => (intro W hSw; subst hSw; simp only [List.getElem_toArray, List.getElem_cons_succ, List.getElem_cons_zero]; go_simp; try (with_reducible rfl))
          simp only [List.getElem_toArray, List.getElem_cons_succ, List.getElem_cons_zero, Act.put, List.setIfInBounds_toArray, List.set_cons_zero, List.set_cons_succ]
          refine wpAnyH_take (i := 15) (v := ?vC15) rfl (by kernel_rfl) (by kernel_rfl) (by kernel_rfl) (fun _ _ _ h => h) (Or.inl ⟨by rfl, ?yC15⟩) hHeld ?rC15
          case yC15 => (intro W hSw; subst hSw; simp only [List.getElem_toArray, List.getElem_cons_succ, List.getElem_cons_zero]; go_simp; try (with_reducible rfl))
          simp only [List.getElem_toArray, List.getElem_cons_succ, List.getElem_cons_zero, Act.put, List.setIfInBounds_toArray, List.set_cons_zero, List.set_cons_succ]
          refine wpAnyH_done (by kernel_rfl) ?_ _
          go_wp2_with (first | (at_builtin; refine wpList_append_own_at _ rfl _ _ 73 rfl w.heap.size 61 i0 (.pointer none) 1 8 Tryz.underlying73 hi0 hz0 hz1 hz2 rfl (by decide) u4 Ts.length ((Ts.map Prod.fst).map ptr) rfl ROW3.out ⟨g1, 0, none⟩ nk c1 (ks.map ptr) rfl KL.out NEWS.out ONE.out (by unfold maxLen; omega) (by omega) SZ.out ?_))
          intro v' W hrow hgr _ hat
          have FIN := Lib.hid (FN.out v' W (by rw [List.map_map]; exact hrow) hgr hat)
          clear hrow hgr hat
          go_wp2_with fail
          go_roundw
          case rel =>
            obtain ⟨q1, q2, q3, q4, q5, q6, e, r⟩ := FIN.out
            exact ⟨q1, q2, q3, q4, q5, q6, by rw [← e]; go_num, r⟩
          case measure => simp [intOf]; omega
    · have hlz : ¬ (j : Int) < (h : Int) + 1 := by omega
      have hlz2 : ¬ (j : Int) < ((h + 1 : Nat) : Int) := by omega
      obtain ⟨G1, p1, p2, p3, p4, ⟨hjl, _⟩ | ⟨p5, p6⟩⟩ := rm
      · exact absurd (HPL.out ▸ hjl) hlt
      obtain ⟨A4, c4, e4, hA4⟩ : ∃ A c, u4 = .slice A Ts.length c ∧ (0 < Ts.length → ∃ g, A = some ⟨g, 0, none⟩) := by
        rcases row.2 with ⟨e, e2⟩ | ⟨g, c, cur, e, _⟩
        · exact ⟨none, 0, by rw [e, e2], fun h => by omega⟩
        · exact ⟨_, c, e, fun _ => ⟨g, rfl⟩⟩
      subst e4
      have HA4 := Lib.hid hA4
      have R2 := Lib.hid (show Rm2 o t mb 0 G0 Ts Dr w σ V (.slice A4 Ts.length c4) (.int .i64 0) wr from ⟨0, σ1, V1, root, h, G1, rfl, Nat.zero_le _, st, tr, kp, row, ap, p2, p1, p3, p6⟩)
      obtain ⟨nT, hnT⟩ : ∃ k, k = Ts.length := ⟨_, rfl⟩
      have NT := Lib.hid hnT
      have hjh : j ≤ h + 1 := by rw [← HPL.out]; exact hj
      have hT9 : nT ≤ 50000 := by omega
      rw [← hnT] at R2 ⊢
      clear st tr kp row ap path pgt hne hlen hA4 hnT p1 p2 p3 p4 p5 p6 RM ST TR KP ROW AP PATH PGT NE
      go_wp2_with fail
      go_loopw [51] (fun v51 wr => Rm2 o t mb 0 G0 Ts Dr w σ V (.slice A4 nT c4) v51 wr) (fun v51 _ => nT - (intOf v51).toNat)
      case atStart => exact R2.out
      case round =>
        clear R2
        obtain ⟨j2, σ2, V2, rt, H, G2, rfl, hj2, st, tr, kp, row, ap, nd, pm, hD, tree⟩ := hrel
        have ST := Lib.hid st
        have TR := Lib.hid tr
        have KP := Lib.hid kp
        have ROW := Lib.hid row
        have AP := Lib.hid ap
        have ND := Lib.hid nd
        have PM := Lib.hid pm
        have HDR := Lib.hid hD
        have TREE := Lib.hid tree
        have LP := Lib.hid PG.out.length_eq
        rw [← NT.out] at hj2
        by_cases hlt2 : j2 < nT
        · have hjz : (j2 : Int) < (nT : Int) := by omega
          have hj0 : (0 : Int) ≤ (j2 : Int) := by omega
          have hjT : j2 < Ts.length := by rw [← NT.out]; exact hlt2
          obtain ⟨g4, rfl⟩ := HA4.out (by omega)
          obtain ⟨⟨x2, f2⟩, hp⟩ : ∃ p, p = Ts[j2]'hjT := ⟨_, rfl⟩
          have hdr : Ts.drop j2 = (x2, f2) :: Ts.drop (j2 + 1) := by rw [List.drop_eq_getElem_cons hjT, ← hp]
          have cp : wr.cell? ⟨g4, j2, none⟩ = some (ptr x2) := by
            have r2 := row
            rw [← NT.out] at r2
            rw [r2.cellAt j2 (by omega), List.getElem?_map, List.getElem?_map, List.getElem?_eq_getElem hjT, ← hp]
            rfl
          obtain ⟨nx, lx⟩ := nd (x2, f2) (by rw [hdr]; exact List.mem_cons_self ..)
          have DRP := Lib.hid hdr
          have CPT := Lib.hid (put_any 1 t o mb rt x2 f2 H σ2 V2 (blT σ2 (Ts.drop (j2 + 1)) ++ Dr) G2 wr st.mem tr h1 h2 (Nat.le_refl 1) (by omega) (by have := tree; rw [hdr, blT_cons, List.append_assoc] at this; exact this) nx lx (fun k hk => by
            rcases List.mem_append.1 hk with hk | hk
            · obtain ⟨q, hq, hk⟩ := List.mem_flatMap.1 hk
              exact (nd q (by rw [hdr]; exact List.mem_cons_of_mem _ hq)).1.known k hk
            · exact hD k hk) (by
            have e := pm.length_eq
            rw [hdr, lvT_cons] at e
            have e2 := LP.out
            have e3 := HG.out
            simp only [List.length_append, List.length_cons] at e e2 ⊢
            omega))
          unfold ptr at CPT cp
          clear st tr kp row ap nd pm hD tree hp hdr nx lx
          go_wp2_with fail
          refine Calls.mono CPT.out ?_
          rintro e w2 ⟨rfl, τ, V3, rt3, H3, G3, s3, t3, k3, tr3, p3, hh3⟩
          have FIN := Lib.hid (Rm2.next (N := 0) (rt := 0) hjT DRP.out TLT.out ST.out KP.out ROW.out AP.out ND.out PM.out HDR.out s3 t3 k3 tr3 p3 hh3)
          clear s3 t3 k3 tr3 p3 hh3 CPT
          go_wp2_with fail
          go_roundw
          case rel =>
            obtain ⟨q1, q2, q3, q4, q5, q6, e, r⟩ := FIN.out
            exact ⟨q1, q2, q3, q4, q5, q6, by rw [← e]; go_num, r⟩
          case measure => simp [intOf]; omega
        · have hjz : ¬ (j2 : Int) < (nT : Int) := by omega
          have hdr : Ts.drop j2 = [] := List.drop_eq_nil_of_le (by rw [← NT.out]; omega)
          have pm2 := pm
          have tree2 := tree
          rw [hdr] at pm2 tree2
          have PM2 := Lib.hid (show (x :: G2).Perm G from (List.Perm.cons x (by simpa [lvT] using pm2)).trans PG.out)
          have TREE2 := Lib.hid tree2
          obtain ⟨d, k1, k2, k3, k4, k5, k6, k7, k8⟩ := id tree2
          have K1 := Lib.hid k1
          have K4 := Lib.hid k4
          obtain ⟨z0, -, -, -, -, -, z6⟩ := (st.mem.part rt d k1).cells
          obtain ⟨A5, c5, hv5, -, -, hr5⟩ := (st.mem.part rt d k1).kids
          rw [hv5] at z6
          rw [k2] at z0
          have HR5 := Lib.hid hr5
          obtain ⟨-, -, t2⟩ := tr.cells
          have tf := tr.soft 2
          unfold ptr at t2
          have tfo := tr.foot st.mem
          have TFO := Lib.hid tfo
          clear st tr kp row ap nd pm hD tree hdr pm2 tree2 k1 k2 k3 k4 k5 k6 k7 k8 hv5 hr5 tfo
          by_cases hH : 1 ≤ H
          · have hHz : (0 : Int) < (H : Int) := by omega
            by_cases hk1 : d.kids.length = 1
            · obtain ⟨kk, hkk⟩ : ∃ kk, d.kids = [kk] := by
                match hd : d.kids with
                | [] => rw [hd] at hk1; cases hk1
                | [a] => exact ⟨a, rfl⟩
                | a :: b :: l => rw [hd] at hk1; simp at hk1
              have HKK := Lib.hid hkk
              obtain ⟨g5, rfl, -, cl⟩ := HR5.out (by omega)
              have c0 : wr.cell? ⟨g5, 0, none⟩ = some (ptr kk) := by
                rw [cl 0 (by omega)]
                exact congrArg (fun k => some (ptr k)) (by simp [hkk])
              rw [hk1] at z6
              unfold ptr at c0
              obtain ⟨H1, rfl⟩ : ∃ H1, H = H1 + 1 := ⟨H - 1, by omega⟩
              have FIN := Lib.hid (show RmE o t mb x G w σ V (.returned (.tuple #[])) (wr.setCell ⟨t, 2, none⟩ (.pointer (some ⟨kk, 0, none⟩))) from by
                refine ⟨rfl, σ2, V2, kk, H1, G2, ST.out.trans (Stp.of_tree ST.out.mem TFO.out 2 _), ?_, KP.out, Tree.few (E := []) (TREE2.out.sink K1.out HKK.out (least_two h1 h2).1), PM2.out⟩
                have := set_obj TR.out 2 (.pointer (some ⟨kk, 0, none⟩))
                unfold TAt
                rw [this]
                simp [ptr])
              clear hkk cl hk1
              go_wp2_with fail
              refine bodyPost_end (v := .tuple #[]) (by simp [results, Tryz.results23, go_sem]) rfl ?_
              exact FIN.out
            · obtain ⟨nk, hnk⟩ : ∃ k, k = d.kids.length := ⟨_, rfl⟩
              rw [← hnk] at z6 hk1
              have NK := Lib.hid hnk
              have hk1z : ¬ (nk : Int) = 1 := by omega
              have FIN := Lib.hid (show RmE o t mb x G w σ V (.returned (.tuple #[])) wr from ⟨rfl, σ2, V2, rt, H, G2, ST.out, TR.out, KP.out, TREE2.out.done K1.out (fun _ => by rw [← NK.out]; exact hk1), PM2.out⟩)
              clear hnk
              go_wp2_with fail
              refine bodyPost_end (v := .tuple #[]) (by simp [results, Tryz.results23, go_sem]) rfl ?_
              exact FIN.out
          · have hHz : ¬ (0 : Int) < (H : Int) := by omega
            have FIN := Lib.hid (show RmE o t mb x G w σ V (.returned (.tuple #[])) wr from ⟨rfl, σ2, V2, rt, H, G2, ST.out, TR.out, KP.out, TREE2.out.done K1.out (fun e => absurd e hH), PM2.out⟩)
            go_wp2_with fail
            refine bodyPost_end (v := .tuple #[]) (by simp [results, Tryz.results23, go_sem]) rfl ?_
            exact FIN.out
end Go.Proofs.YtobkgamcjfjghaaGreat.Rt
