/-
  An index told by the list of its items and by the blocks that it has: what its calls come to, and what they leave alone.
-/
import Derived.Test.YtobkgamcjfjghaaGreatMp20
import Derived.Test.YtobkgamcjfjghaaGreatMp18
import Derived.Test.YtobkgamcjfjghaaGreatMp24
import Derived.Test.YtobkgamcjfjghaaGreatMp26
/-
  Contract of Tree.Put: an item is put in, or one of three errors is told; what is no part of the index is left as it was.
-/
namespace Go.Proofs.YtobkgamcjfjghaaGreat.Rt
open Go.RowKit Go.Joins Go.Maps Go.Proofs.YtobkgamcjfjghaaGreat.Pt Go.Proofs.YtobkgamcjfjghaaGreat.Rc Go.Proofs.YtobkgamcjfjghaaGreat.Rs
set_option linter.unusedVariables false
set_option linter.unusedSimpArgs false
set_option maxHeartbeats 2000000
set_option maxRecDepth 100000
theorem Tree.fresh {σ : St} {lo hi rlo h root b : Nat} {G : List Nat} {d : Pd} (ht : Tree σ lo hi rlo h root [] G) (hb : σ b = none) : Tree (upd σ b d) lo hi rlo h root [b] G := by
  have kn := ht.nd.known
  have ne : ∀ k ∈ blks σ (h + 1) root, k ≠ b := fun k hk e => by
    obtain ⟨x, hx⟩ := kn k hk
    rw [e, hb] at hx
    cases hx
  have ag : ∀ k ∈ blks σ (h + 1) root, upd σ b d k = σ k := fun k hk => upd_other σ d (ne k hk)
  obtain ⟨d0, h1, h2, h3, h4, h5, h6, h7, h8⟩ := ht
  have sub : ∀ k ∈ d0.kids, ∀ j ∈ blks σ h k, j ∈ blks σ (h + 1) root := fun k hk j hj => kid_mem (by rw [kidsOf_some h1]; exact hk) hj
  refine ⟨d0, by rw [ag root (self_mem σ (h + 1) root)]; exact h1, h2, fun k hk => (h3 k hk).agree fun j hj => ag j (sub k hk j hj), h4, h5, by rw [h6]; exact (hull_agree fun k hk => ag k (sub k hk k (self_mem σ h k))).symm, ?_, by rw [lvs_agree _ _ ag]; exact h8⟩
  rw [blks_agree _ _ ag]
  rw [List.append_nil] at h7
  exact List.nodup_append.2 ⟨h7, by simp, fun a ha c hc => by simp at hc; rw [hc]; exact ne a ha⟩
def PutTE (t o mb : Nat) (σ : St) (V : Nat → Value) (M : Int → Option Nat) (G : List Nat) (r : R4) (i : Int) (w : World) (e : Ending) (w' : World) : Prop :=
  (Below w.heap.size w w' ∧ (((rmayB r.x1 r.y1 r.x2 r.y2 = false ∨ i < 0) ∧ e = .returned (.iface 33 (.int .i64 1))) ∨
    (rmayB r.x1 r.y1 r.x2 r.y2 = true ∧ ¬ i < 0 ∧ (M i ≠ none ∧ e = .returned (.iface 33 (.int .i64 10)) ∨ M i = none ∧ 2000 ≤ G.length ∧ e = .returned (.iface 33 (.int .i64 8)))))) ∨
  ∃ (b : Nat) (σ' : St) (V' : Nat → Value) (rt h' : Nat) (G' : List Nat), rmayB r.x1 r.y1 r.x2 r.y2 = true ∧ ¬ i < 0 ∧ M i = none ∧ G.length < 2000 ∧ e = .returned .nilIface ∧ Idx w' t o σ' V' mb rt h' (at_ M i (some b)) G' ∧ G'.Perm (b :: G) ∧ σ' b = some ⟨-1, r, i, []⟩ ∧ Mv t mb w σ V w' σ' V'
theorem Idx.added {w w2 w3 w' : World} {t o mb root h b : Nat} {σ : St} {V : Nat → Value} {M : Int → Option Nat} {G : List Nat} {r : R4} {i : Int} {e : Ending} (x : Idx w t o σ V mb root h M G) (hM : M i = none) (hb : w.heap.size ≤ b) (hn : σ b = none) (M2 : Mem w2 (upd σ b ⟨-1, r, i, []⟩) (updV V b (.slice none 0 0))) (B2 : Below w.heap.size w w2) (m3 : MapAt w3 mb (at_ M i (some b)) (G.length + 1)) (hg : w2.grownBy w3 (some mb))
    (p : PutE 2 o t mb h [] (lvs (upd σ b ⟨-1, r, i, []⟩) 0 b ++ G) w3 (upd σ b ⟨-1, r, i, []⟩) (updV V b (.slice none 0 0)) e w') :
    e = .returned (.tuple #[]) ∧ ∃ (σ' : St) (V' : Nat → Value) (rt h' : Nat) (G' : List Nat), Idx w' t o σ' V' mb rt h' (at_ M i (some b)) G' ∧ G'.Perm (b :: G) ∧ σ' b = some ⟨-1, r, i, []⟩ ∧ Mv t mb w σ V w' σ' V' := by
  obtain ⟨he, σ', V', rt, h', G', st, tr, kp, ht, pm, -⟩ := p
  obtain ⟨a1, a2⟩ := x.apart
  have s12 : Stp t w σ V w2 _ _ := Stp.of_new (d := ⟨-1, r, i, []⟩) hb (fun k hk => by simp [Value.ownBlock] at hk) M2 B2
  have hf2 := (s12.out x.map.lt a1 a2).2
  have ho := st.out m3.lt hf2 a2
  have ib : σ' b = some ⟨-1, r, i, []⟩ := kp.item b _ (upd_same _ _ _) rfl
  have it : ∀ k d, σ k = some d → d.lvl = -1 → σ' k = some d := fun k d hd hl => kp.item k d (by rw [upd_other]; exact hd; exact fun e => by rw [e, hn] at hd; cases hd) hl
  have pm2 : G'.Perm (b :: G) := pm
  refine ⟨he, σ', V', rt, h', G', ⟨st.mem, tr, ?_, ht, fun j l => ?_⟩, pm2, ib, ⟨?_, fun k hk => ?_, it⟩⟩
  · rw [pm2.length_eq, List.length_cons]
    exact m3.same ho.1
  · have idl : ∀ l ∈ G, idOf σ' l = idOf σ l := fun l hl => by
      obtain ⟨d, hd, hlv, _, _⟩ := x.sound.item hl
      rw [idOf_some hd, idOf_some (it l d hd hlv)]
    have idb : idOf σ' b = i := idOf_some ib
    have nb : b ∉ G := fun hb => by
      obtain ⟨d, hd, _⟩ := x.sound.item hb
      rw [hn] at hd
      cases hd
    rw [pm2.mem_iff, List.mem_cons]
    by_cases e : j = i
    · subst e
      simp only [at_, if_pos rfl]
      constructor
      · intro h
        cases h
        exact ⟨Or.inl rfl, idb⟩
      · rintro ⟨rfl | hl, hid⟩
        · rfl
        · have := (x.known j l).2 ⟨hl, by rw [← idl l hl]; exact hid⟩
          rw [hM] at this
          cases this
    · simp only [at_, if_neg e]
      rw [x.known j l]
      constructor
      · rintro ⟨hl, hid⟩
        exact ⟨Or.inr hl, by rw [idl l hl]; exact hid⟩
      · rintro ⟨rfl | hl, hid⟩
        · exact absurd (hid.symm.trans idb) e
        · exact ⟨hl, by rw [← idl l hl]; exact hid⟩
  · have k1 : Ke (fun k => Foot σ V k ∨ k = t ∨ k = mb) w w2 := s12.ke.mono fun g _ hg => hg.elim Or.inl (fun e => Or.inr (Or.inl e))
    have k2 := k1.grown hg (fun k hk => Or.inl (Or.inr (Or.inr (by cases hk; rfl))))
    exact k2.trans st.ke fun g hg hY => hY.elim (fun hf => (s12.foot g hf).elim Or.inl (fun h => by omega)) (fun e => Or.inr (Or.inl e))
  · rcases st.foot k hk with hf | hs
    · exact s12.foot k hf
    · exact Or.inr (Nat.le_trans B2.size (Nat.le_trans hg.size hs))
theorem putT_any (t o mb root h : Nat) (σ : St) (V : Nat → Value) (M : Int → Option Nat) (G : List Nat) (r : R4) (i : Int) (w : World) (x : Idx w t o σ V mb root h M G) (h1 : 4 ≤ o) (h2 : o ≤ 16) (hi : wf64 i) (hG : G.length ≤ 2000) :
    Calls Tryz.prog 12 #[ptr t, .agg #[.int .i64 r.x1, .int .i64 r.y1, .int .i64 r.x2, .int .i64 r.y2, .int .i64 i]] w (PutTE t o mb σ V M G r i w) := by
  obtain ⟨w0, hw0⟩ : ∃ v, v = w.alloc (.cells #[.int .i64 r.x1, .int .i64 r.y1, .int .i64 r.x2, .int .i64 r.y2, .int .i64 i] 36) := ⟨_, rfl⟩
  have b0 : Below w.heap.size w w0 := by rw [hw0]; exact (Below.refl _ _).alloc (Nat.le_refl _) _
  have sz0 : w0.heap.size = w.heap.size + 1 := by rw [hw0]; simp
  have c0 : ∀ W, Below w0.heap.size w0 W → W.cell? ⟨w.heap.size, 0, none⟩ = some (.int .i64 r.x1) ∧ W.cell? ⟨w.heap.size, 1, none⟩ = some (.int .i64 r.y1) ∧ W.cell? ⟨w.heap.size, 2, none⟩ = some (.int .i64 r.x2) ∧ W.cell? ⟨w.heap.size, 3, none⟩ = some (.int .i64 r.y2) ∧ W.cell? ⟨w.heap.size, 4, none⟩ = some (.int .i64 i) := fun W hB => by
    have e : W.heap[w.heap.size]? = w0.heap[w.heap.size]? := hB.block _ (by omega)
    have : ∀ off, W.cell? ⟨w.heap.size, off, none⟩ = w0.cell? ⟨w.heap.size, off, none⟩ := fun off => World.cell?_of_block e
    simp only [this]
    rw [hw0]
    refine ⟨?_, ?_, ?_, ?_, ?_⟩ <;> simp [go_sem]
  have C0 := Lib.hid c0
  have B0 := Lib.hid b0
  have X := Lib.hid x
  have HW0 := Lib.hid hw0
  have SZ0 := Lib.hid sz0
  obtain ⟨bm, hbm⟩ : ∃ b, b = rmayB r.x1 r.y1 r.x2 r.y2 := ⟨_, rfl⟩
  have HBM := Lib.hid hbm
  have CM := Lib.hid (rmay_any r.x1 r.y1 r.x2 r.y2 (w.alloc (.cells #[.int .i64 r.x1, .int .i64 r.y1, .int .i64 r.x2, .int .i64 r.y2, .int .i64 i] 36)))
  rw [← hbm] at CM
  unfold ptr
  clear x c0 b0 hw0 sz0 hbm
  go_enter Tryz.func12, Tryz.ntmps12
  go_wp2_with fail
  refine Calls.mono CM.out ?_
  rintro e w1 ⟨rfl, hb1⟩
  rw [← HW0.out] at hb1
  have B01 := Lib.hid hb1
  have B1 := Lib.hid (B0.out.trans (hb1.mono B0.out.size))
  obtain ⟨q0, q1, q2, q3, q4⟩ := C0.out w1 hb1
  clear hb1 CM
  cases bm with
  | false =>
    go_wp2_with fail
    go_ret
    exact Or.inl ⟨B1.out, Or.inl ⟨Or.inl HBM.out.symm, rfl⟩⟩
  | true =>
    by_cases hneg : i < 0
    · go_wp2_with fail
      go_ret
      exact Or.inl ⟨B1.out, Or.inl ⟨Or.inr hneg, rfl⟩⟩
    · have hneg2 : 0 ≤ i := by omega
      clear q0 q1 q2 q3
      go_wp2_with fail
      obtain ⟨wd, hwd⟩ : ∃ v, v = w1.drew := ⟨_, rfl⟩
      have HWD := Lib.hid hwd
      have BD := Lib.hid (show Below w.heap.size w wd by rw [hwd]; exact B1.out.drew)
      have B0D := Lib.hid (show Below w0.heap.size w0 wd by rw [hwd]; exact B01.out.drew)
      obtain ⟨q0, q1, q2, q3, q5⟩ := C0.out wd B0D.out
      have Q := Lib.hid (And.intro q0 (And.intro q1 (And.intro q2 q3)))
      have XD := Lib.hid (X.out.later BD.out)
      obtain ⟨-, t1, -⟩ := XD.out.tree.cells
      obtain ⟨v, hrun, hv⟩ := XD.out.map.look hi
      obtain ⟨bs, hbs⟩ : ∃ b, b = (M i).isSome := ⟨_, rfl⟩
      rw [← hbs] at hrun
      have HBS := Lib.hid hbs
      clear hwd hv hbs q0 q1 q2 q3
      refine wp_region_held_drew (S := (fun W => W = wd)) (by kernel_rfl) (by rw [← HWD.out]) (fun hHeld => ?_)
      rw [← HWD.out] at hHeld ⊢
      refine wpAnyH_take (i := 0) (v := ?vA0) rfl (by kernel_rfl) (by kernel_rfl) (by kernel_rfl) (fun _ _ _ h => h) (Or.inl ⟨by rfl, ?yA0⟩) hHeld ?rA0
      case yA0 => (intro W hSw; subst hSw; simp only [List.getElem_toArray, List.getElem_cons_zero]; go_simp; try (with_reducible rfl))
      simp only [List.getElem_toArray, List.getElem_cons_zero, Act.put, List.setIfInBounds_toArray, List.set_cons_zero, List.set_cons_succ]
      refine wpAnyH_take (i := 1) (v := ?vA1) rfl (by kernel_rfl) (by kernel_rfl) (by kernel_rfl) (fun _ _ _ h => h) (Or.inl ⟨by rfl, ?yA1⟩) hHeld ?rA1
      case yA1 => (intro W hSw; subst hSw; simp only [List.getElem_toArray, List.getElem_cons_succ, List.getElem_cons_zero]; go_simp; try (with_reducible rfl))
      simp only [List.getElem_toArray, List.getElem_cons_succ, List.getElem_cons_zero, Act.put, List.setIfInBounds_toArray, List.set_cons_zero, List.set_cons_succ]
      refine wpAnyH_take (i := 2) (v := ?vA2) rfl (by kernel_rfl) (by kernel_rfl) (by kernel_rfl) (fun _ _ _ h => h) (Or.inl ⟨by rfl, ?yA2⟩) hHeld ?rA2
      case yA2 => (intro W hSw; subst hSw; simp only [List.getElem_toArray, List.getElem_cons_succ, List.getElem_cons_zero]; go_simp; try (with_reducible rfl))
      simp only [List.getElem_toArray, List.getElem_cons_succ, List.getElem_cons_zero, Act.put, List.setIfInBounds_toArray, List.set_cons_zero, List.set_cons_succ]
      refine wpAnyH_take (i := 3) (v := ?vA3) rfl (by kernel_rfl) (by kernel_rfl) (by kernel_rfl) (fun _ _ _ h => h) (Or.inl ⟨by rfl, ?yA3⟩) hHeld ?rA3
      case yA3 => (intro W hSw; subst hSw; simp only [List.getElem_toArray, List.getElem_cons_succ, List.getElem_cons_zero]; go_simp; try (with_reducible rfl))
      simp only [List.getElem_toArray, List.getElem_cons_succ, List.getElem_cons_zero, Act.put, List.setIfInBounds_toArray, List.set_cons_zero, List.set_cons_succ]
      refine wpAnyH_take (i := 4) (v := ?vA4) rfl (by kernel_rfl) (by kernel_rfl) (by kernel_rfl) (fun _ _ _ h => h) (Or.inl ⟨by rfl, ?yA4⟩) hHeld ?rA4
      case yA4 => (intro W hSw; subst hSw; simp only [List.getElem_toArray, List.getElem_cons_succ, List.getElem_cons_zero]; go_simp; try (with_reducible rfl))
      simp only [List.getElem_toArray, List.getElem_cons_succ, List.getElem_cons_zero, Act.put, List.setIfInBounds_toArray, List.set_cons_zero, List.set_cons_succ]
      refine wpAnyH_take (i := 5) (v := ?vA5) rfl (by kernel_rfl) (by kernel_rfl) (by kernel_rfl) (fun _ _ _ h => h) (Or.inl ⟨by rfl, ?yA5⟩) hHeld ?rA5
      case yA5 => (intro W hSw; subst hSw; simp only [List.getElem_toArray, List.getElem_cons_succ, List.getElem_cons_zero]; go_simp; try (with_reducible rfl))
      simp only [List.getElem_toArray, List.getElem_cons_succ, List.getElem_cons_zero, Act.put, List.setIfInBounds_toArray, List.set_cons_zero, List.set_cons_succ]
      refine wpAnyH_take (i := 6) (v := ?vA6) rfl (by kernel_rfl) (by kernel_rfl) (by kernel_rfl) (fun _ _ _ h => h) (Or.inl ⟨by rfl, ?yA6⟩) hHeld ?rA6
      case yA6 => (intro W hSw; subst hSw; simp only [List.getElem_toArray, List.getElem_cons_succ, List.getElem_cons_zero]; go_simp; try (with_reducible rfl))
      simp only [List.getElem_toArray, List.getElem_cons_succ, List.getElem_cons_zero, Act.put, List.setIfInBounds_toArray, List.set_cons_zero, List.set_cons_succ]
      refine wpAnyH_take (i := 7) (v := ?vA7) rfl (by kernel_rfl) (by kernel_rfl) (by kernel_rfl) (fun _ _ _ h => h) (Or.inl ⟨by rfl, ?yA7⟩) hHeld ?rA7
      case yA7 => (intro W hSw; subst hSw; simp only [List.getElem_toArray, List.getElem_cons_succ, List.getElem_cons_zero]; go_simp; try (with_reducible rfl))
      simp only [List.getElem_toArray, List.getElem_cons_succ, List.getElem_cons_zero, Act.put, List.setIfInBounds_toArray, List.set_cons_zero, List.set_cons_succ]
      refine wpAnyH_take (i := 8) (v := ?vA8) rfl (by kernel_rfl) (by kernel_rfl) (by kernel_rfl) (fun _ _ _ h => h) (Or.inl ⟨by rfl, ?yA8⟩) hHeld ?rA8
      case yA8 => (intro W hSw; subst hSw; simp only [List.getElem_toArray, List.getElem_cons_succ, List.getElem_cons_zero]; go_simp; try (with_reducible rfl))
      simp only [List.getElem_toArray, List.getElem_cons_succ, List.getElem_cons_zero, Act.put, List.setIfInBounds_toArray, List.set_cons_zero, List.set_cons_succ]
      refine wpAnyH_take (i := 9) (v := ?vA9) rfl (by kernel_rfl) (by kernel_rfl) (by kernel_rfl) (fun _ _ _ h => h) (Or.inl ⟨by rfl, ?yA9⟩) hHeld ?rA9
      case yA9 => (intro W hSw; subst hSw; simp only [List.getElem_toArray, List.getElem_cons_succ, List.getElem_cons_zero]; go_simp; try (with_reducible rfl))
      simp only [List.getElem_toArray, List.getElem_cons_succ, List.getElem_cons_zero, Act.put, List.setIfInBounds_toArray, List.set_cons_zero, List.set_cons_succ]
      refine wpAnyH_take (i := 10) (v := ?vA10) rfl (by kernel_rfl) (by kernel_rfl) (by kernel_rfl) (fun _ _ _ h => h) (Or.inl ⟨by rfl, ?yA10⟩) hHeld ?rA10
      case yA10 => (intro W hSw; subst hSw; simp only [List.getElem_toArray, List.getElem_cons_succ, List.getElem_cons_zero]; go_simp; try (with_reducible rfl))
      simp only [List.getElem_toArray, List.getElem_cons_succ, List.getElem_cons_zero, Act.put, List.setIfInBounds_toArray, List.set_cons_zero, List.set_cons_succ]
      refine wpAnyH_take (i := 11) (v := ?vA11) rfl (by kernel_rfl) (by kernel_rfl) (by kernel_rfl) (fun _ _ _ h => h) (Or.inl ⟨by rfl, ?yA11⟩) hHeld ?rA11
      case yA11 => (intro W hSw; subst hSw; simp only [List.getElem_toArray, List.getElem_cons_succ, List.getElem_cons_zero]; go_simp; try (with_reducible rfl))
      simp only [List.getElem_toArray, List.getElem_cons_succ, List.getElem_cons_zero, Act.put, List.setIfInBounds_toArray, List.set_cons_zero, List.set_cons_succ]
      refine wpAnyH_done (by kernel_rfl) ?_ _
      cases bs with
      | true =>
        go_wp2_with fail
        go_ret
        exact Or.inl ⟨BD.out, Or.inr ⟨HBM.out.symm, by omega, Or.inl ⟨fun e => (by have := HBS.out; rw [e] at this; simp at this), rfl⟩⟩⟩
      | false =>
        have hnone : M i = none := by
          cases e : M i with
          | none => rfl
          | some k => have := HBS.out; rw [e] at this; cases this
        have HN := Lib.hid hnone
        have ln := XD.out.map.len 3
        obtain ⟨n, hn⟩ : ∃ n, n = G.length := ⟨_, rfl⟩
        rw [← hn] at ln
        have NN := Lib.hid hn
        have hn0 : n ≤ 2000 := by omega
        clear hrun hnone hn
        by_cases hfull : 2000 ≤ n
        · have hfz : (n : Int) ≥ 2000 := by omega
          have hfz2 : (2000 : Int) ≤ (n : Int) := by omega
          go_wp2_with fail
          go_ret
          exact Or.inl ⟨BD.out, Or.inr ⟨HBM.out.symm, by omega, Or.inr ⟨HN.out, by rw [← NN.out]; exact hfull, rfl⟩⟩⟩
        · have hfz : ¬ (n : Int) ≥ 2000 := by omega
          have hfz2 : ¬ (2000 : Int) ≤ (n : Int) := by omega
          obtain ⟨q0, q1, q2, q3⟩ := Q.out
          have CN := Lib.hid (newItem_any r i σ V wd XD.out.mem)
          go_wp2_with fail
          refine Calls.mono CN.out ?_
          rintro e w2 ⟨b, rfl, hbb, hbn, hM2, hb2⟩
          have B2 := Lib.hid (BD.out.trans (hb2.mono BD.out.size))
          have HB := Lib.hid (show w.heap.size ≤ b from Nat.le_trans BD.out.size hbb)
          have HBN := Lib.hid hbn
          have M2 := Lib.hid hM2
          have B02 := Lib.hid (B0D.out.trans (hb2.mono B0D.out.size))
          clear ln q0 q1 q2 q3 q4 q5 CN hM2 hb2 hbb hbn t1
          unfold ptr
          go_wp2_with fail
          obtain ⟨we, hwe⟩ : ∃ v, v = w2.drew := ⟨_, rfl⟩
          have HWE := Lib.hid hwe
          have BE := Lib.hid (show Below w.heap.size w we by rw [hwe]; exact B2.out.drew)
          have B0E := Lib.hid (show Below w0.heap.size w0 we by rw [hwe]; exact B02.out.drew)
          have ME := Lib.hid (show Mem we (upd σ b ⟨-1, r, i, []⟩) (updV V b (.slice none 0 0)) by rw [hwe]; exact M2.out.drew)
          have XE := Lib.hid (X.out.later BE.out)
          have q4 := (C0.out we B0E.out).2.2.2.2
          obtain ⟨-, t1, -⟩ := XE.out.tree.cells
          obtain ⟨w3, hst, hm3, hgr⟩ := XE.out.map.store (k := b) hi (by rw [← NN.out]; unfold maxLen; omega) HN.out
          have NF := Lib.hid (show ¬ Foot (upd σ b ⟨-1, r, i, []⟩) (updV V b (.slice none 0 0)) mb from fun hf => by
            rcases foot_upd hf with e | e | e
            · have := X.out.map.lt
              have := HB.out
              omega
            · simp [Value.ownBlock] at e
            · exact X.out.apart.1 e)
          have M3 := Lib.hid hm3
          have GR := Lib.hid hgr
          have t3 := (World.cell?_of_block (w := we) (w' := w3) (a := ⟨t, 1, none⟩) (hgr.block t XE.out.tree.lt (fun e => X.out.apart.2 (by cases e; rfl)))).trans t1
          have q6 := (World.cell?_of_block (w := we) (w' := w3) (a := ⟨w.heap.size, 4, none⟩) (hgr.block w.heap.size (Nat.lt_of_lt_of_le (by rw [SZ0.out]; exact Nat.lt_succ_self _) B0E.out.size) (fun e => by have := X.out.map.lt; cases e; exact Nat.lt_irrefl _ this))).trans q4
          have S0 := Lib.hid (And.intro t1 q4)
          have S3 := Lib.hid (And.intro t3 q6)
          unfold ptr at hst
          clear hm3 hgr hwe t3 q6 t1 q4
          refine wp_region_held_drew (S := (fun W => W.cell? ⟨t, 1, none⟩ = some (.map (some mb)) ∧ W.cell? ⟨w.heap.size, 4, none⟩ = some (.int .i64 i))) (by kernel_rfl) (by rw [← HWE.out]; exact S0.out) (fun hHeld => ?_)
          rw [← HWE.out] at hHeld ⊢
          refine wpAnyH_take (i := 0) (v := ?vE0) rfl (by kernel_rfl) (by kernel_rfl) (by kernel_rfl) (fun _ _ _ h => h) (Or.inl ⟨by rfl, ?yE0⟩) hHeld ?rE0
          case yE0 => (intro W hSw; simp only [List.getElem_toArray, List.getElem_cons_zero]; go_simp; try (with_reducible rfl))
          simp only [List.getElem_toArray, List.getElem_cons_zero, Act.put, List.setIfInBounds_toArray, List.set_cons_zero, List.set_cons_succ]
          refine wpAnyH_take (i := 1) (v := ?vE1) rfl (by kernel_rfl) (by kernel_rfl) (by kernel_rfl) (fun _ _ _ h => h) (Or.inl ⟨by rfl, ?yE1⟩) hHeld ?rE1
          case yE1 => (intro W hSw; simp only [List.getElem_toArray, List.getElem_cons_succ, List.getElem_cons_zero]; go_simp; try (with_reducible rfl))
          simp only [List.getElem_toArray, List.getElem_cons_succ, List.getElem_cons_zero, Act.put, List.setIfInBounds_toArray, List.set_cons_zero, List.set_cons_succ]
          refine wpAnyH_take (i := 2) (v := ?vE2) rfl (by kernel_rfl) (by kernel_rfl) (by kernel_rfl) (fun _ _ _ h => h) (Or.inl ⟨by rfl, ?yE2⟩) hHeld ?rE2
          case yE2 => (intro W hSw; simp only [List.getElem_toArray, List.getElem_cons_succ, List.getElem_cons_zero]; go_simp; try (with_reducible rfl))
          simp only [List.getElem_toArray, List.getElem_cons_succ, List.getElem_cons_zero, Act.put, List.setIfInBounds_toArray, List.set_cons_zero, List.set_cons_succ]
          refine wpAnyH_take (i := 3) (v := ?vE3) rfl (by kernel_rfl) (by kernel_rfl) (by kernel_rfl) (fun _ _ _ h => h) (Or.inl ⟨by rfl, ?yE3⟩) hHeld ?rE3
          case yE3 => (intro W hSw; simp only [List.getElem_toArray, List.getElem_cons_succ, List.getElem_cons_zero]; go_simp; try (with_reducible rfl))
          simp only [List.getElem_toArray, List.getElem_cons_succ, List.getElem_cons_zero, Act.put, List.setIfInBounds_toArray, List.set_cons_zero, List.set_cons_succ]
          refine wpAnyH_take (i := 4) (v := ?vE4) rfl (by kernel_rfl) (by kernel_rfl) (by kernel_rfl) (fun _ _ _ h => h) (Or.inl ⟨by rfl, ?yE4⟩) hHeld ?rE4
          case yE4 => (intro W hSw; simp only [List.getElem_toArray, List.getElem_cons_succ, List.getElem_cons_zero]; go_simp; try (with_reducible rfl))
          simp only [List.getElem_toArray, List.getElem_cons_succ, List.getElem_cons_zero, Act.put, List.setIfInBounds_toArray, List.set_cons_zero, List.set_cons_succ]
          refine wpAnyH_take (i := 5) (v := ?vE5) rfl (by kernel_rfl) (by kernel_rfl) (by kernel_rfl) (fun _ _ _ h => h) (Or.inl ⟨by rfl, ?yE5⟩) hHeld ?rE5
          case yE5 => (intro W hSw; simp only [List.getElem_toArray, List.getElem_cons_succ, List.getElem_cons_zero]; go_simp; try (with_reducible rfl))
          simp only [List.getElem_toArray, List.getElem_cons_succ, List.getElem_cons_zero, Act.put, List.setIfInBounds_toArray, List.set_cons_zero, List.set_cons_succ]
          refine wpAnyH_take (i := 6) (v := ?vE6) rfl (by kernel_rfl) (by kernel_rfl) (by kernel_rfl) (fun _ _ _ h => h) (Or.inl ⟨by rfl, ?yE6⟩) hHeld ?rE6
          case yE6 => (intro W hSw; simp only [List.getElem_toArray, List.getElem_cons_succ, List.getElem_cons_zero]; go_simp; try (with_reducible rfl))
          simp only [List.getElem_toArray, List.getElem_cons_succ, List.getElem_cons_zero, Act.put, List.setIfInBounds_toArray, List.set_cons_zero, List.set_cons_succ]
          refine wpAnyH_ready (rs := [7]) (by kernel_rfl) (by simp) (AllReadyH.cons rfl (fun K hK => ?_) AllReadyH.nil)
          simp only [List.getElem_toArray, List.getElem_cons_succ, List.getElem_cons_zero]
          go_simp
          refine hK.out _ _ (by exact S3.out) (fun hHeld1 => ?_)
          clear hK K hHeld hHeld1
          refine wpAnyH_done (by kernel_rfl) ?_ _
          clear hst
          have kk : Ke (fun k => k = mb) we w3 := (Ke.refl _ we).grown GR.out (fun k hk => Or.inl (by cases hk; rfl))
          have CP := Lib.hid (put_any 2 t o mb root b 0 h (upd σ b ⟨-1, r, i, []⟩) (updV V b (.slice none 0 0)) [] G w3 (ME.out.keep kk (fun g hf e => NF.out (e ▸ hf))) (XE.out.tree.keep kk (fun e => X.out.apart.2 e.symm)) h1 h2 (by omega) (Nat.le_refl 2) (X.out.sound.fresh HBN.out) ⟨⟨-1, r, i, []⟩, upd_same _ _ _, rfl, rfl, HBM.out.symm⟩ (Nat.zero_le h) (fun k hk => by cases hk) (by
            show (b :: G).length ≤ 2500
            rw [List.length_cons]
            omega))
          unfold ptr at CP
          clear kk
          go_wp2_with fail
          refine Calls.mono CP.out ?_
          intro e w' hr
          obtain ⟨rfl, σ', V', rt, h', G', y, pm, ib, mv⟩ := X.out.added HN.out HB.out HBN.out ME.out BE.out M3.out GR.out hr
          have FIN := Lib.hid (show PutTE t o mb σ V M G r i w (.returned .nilIface) w' from Or.inr ⟨b, σ', V', rt, h', G', HBM.out.symm, by omega, HN.out, by rw [← NN.out]; omega, rfl, y, pm, ib, mv⟩)
          clear hr y pm ib mv CP
          go_wp2_with fail
          go_ret
          exact FIN.out
end Go.Proofs.YtobkgamcjfjghaaGreat.Rt
/-
  Contract of New: an empty index in blocks of the call's own, or an error.
-/
namespace Go.Proofs.YtobkgamcjfjghaaGreat.Rt
open Go.RowKit Go.Joins Go.Maps Go.Proofs.YtobkgamcjfjghaaGreat.Pt Go.Proofs.YtobkgamcjfjghaaGreat.Rc Go.Proofs.YtobkgamcjfjghaaGreat.Rs
set_option linter.unusedVariables false
set_option linter.unusedSimpArgs false
set_option maxHeartbeats 2000000
set_option maxRecDepth 100000
def noSt : St := fun _ => none
def noV : Nat → Value := fun _ => .slice none 0 0
theorem noMem (w : World) : Mem w noSt noV := ⟨fun b d h => (by cases h), fun b c d e g h => (by cases h)⟩
theorem lone {lo hi : Nat} (b : Nat) : Tree (upd noSt b ⟨0, hull noSt [], 0, []⟩) lo hi 2 0 b [] [] := by
  refine ⟨⟨0, hull noSt [], 0, []⟩, upd_same _ _ _, rfl, fun k hk => (by cases hk), fun h => (by omega), Nat.zero_le _, rfl, ?_, ?_⟩
  · rw [blks_self (upd_same _ _ _)]
    simp
  · rw [lvs_self (upd_same _ _ _)]
    simp
def NewE (o : Int) (w : World) (e : Ending) (w' : World) : Prop :=
  ((o < 4 ∨ 16 < o) ∧ e = .returned (.tuple #[.pointer none, .iface 33 (.int .i64 1)]) ∧ w' = w) ∨
  ∃ (n t mb root : Nat) (σ : St) (V : Nat → Value), (n : Int) = o ∧ 4 ≤ n ∧ n ≤ 16 ∧ e = .returned (.tuple #[ptr t, .nilIface]) ∧ w.heap.size ≤ t ∧ w.heap.size ≤ mb ∧ (∀ k, Foot σ V k → w.heap.size ≤ k) ∧ Below w.heap.size w w' ∧ Idx w' t n σ V mb root 0 (fun _ => none) []
theorem newT_any (o : Int) (w : World) : Calls Tryz.prog 7 #[.int .i64 o] w (NewE o w) := by
  have hmm := @run_makeMap Tryz.prog
  by_cases hlo : o < 4
  · go_enter Tryz.func7, Tryz.ntmps7
    go_wp2_with fail
    refine bodyPost_ret (v := .tuple #[.pointer none, .iface 33 (.int .i64 1)]) (by simp [results, Tryz.results7, go_sem]) rfl ?_
    exact Or.inl ⟨Or.inl hlo, rfl, rfl⟩
  · have hlo2 : 4 ≤ o := by omega
    by_cases hhi : 16 < o
    · have hhi2 : o > 16 := hhi
      go_enter Tryz.func7, Tryz.ntmps7
      go_wp2_with fail
      refine bodyPost_ret (v := .tuple #[.pointer none, .iface 33 (.int .i64 1)]) (by simp [results, Tryz.results7, go_sem]) rfl ?_
      exact Or.inl ⟨Or.inr hhi, rfl, rfl⟩
    · have hhi2 : ¬ o > 16 := hhi
      have hhi3 : o ≤ 16 := by omega
      obtain ⟨n, hn⟩ : ∃ n : Nat, (n : Int) = o := ⟨o.toNat, by omega⟩
      have HNO := Lib.hid hn
      obtain ⟨wm, hwm⟩ : ∃ v, v = w.alloc (.map #[] 0) := ⟨_, rfl⟩
      have MM := Lib.hid (show MapAt wm w.heap.size (fun _ => none) 0 by rw [hwm]; exact MapAt.made w)
      have BM := Lib.hid (show Below w.heap.size w wm by rw [hwm]; exact (Below.refl _ _).alloc (Nat.le_refl _) _)
      have CN := Lib.hid (newNode_any 0 (.slice none 0 0) [] noSt noV wm (noMem wm) (World.ownsRow_nil _ _ _ _) (fun c e g hc _ => by cases hc) (fun k hk => (by cases hk)) (by simp))
      rw [hwm] at CN
      have HWM := Lib.hid hwm
      clear hwm hn
      go_enter Tryz.func7, Tryz.ntmps7
      go_wp2_with fail
      refine Calls.mono CN.out ?_
      rintro e w1 ⟨b, rfl, hbb, hbn, hM1, hb1⟩
      rw [← HWM.out] at hb1 hbb
      have HBB := Lib.hid hbb
      have M1 := Lib.hid hM1
      have B1 := Lib.hid hb1
      clear hbb hbn hM1 hb1 CN
      unfold ptr
      go_wp2_with fail
      refine bodyPost_ret (v := .tuple #[.pointer (some ⟨w1.heap.size, 0, none⟩), .nilIface]) (by simp [results, Tryz.results7, go_sem]) rfl ?_
      have bw1 : Below w.heap.size w w1 := BM.out.trans (B1.out.mono BM.out.size)
      have bl : Below w1.heap.size w1 (w1.alloc (.cells #[.int .i64 o, .map (some w.heap.size), ptr b] 64)) := (Below.refl _ _).alloc (Nat.le_refl _) _
      refine Or.inr ⟨n, w1.heap.size, w.heap.size, b, _, _, HNO.out, by have := HNO.out; omega, by have := HNO.out; omega, rfl, bw1.size, Nat.le_refl _, fun k hk => ?_, bw1.trans (bl.mono bw1.size), ⟨M1.out.later bl, ?_, (MM.out.later B1.out).later bl, lone b, fun i k => ?_⟩⟩
      · rcases foot_upd hk with e | e | e
        · rw [e]
          exact Nat.le_trans BM.out.size HBB.out
        · simp [Value.ownBlock] at e
        · rcases e with ⟨d, hd⟩ | ⟨c, d, hd, _⟩
          · cases hd
          · cases hd
      · unfold TAt
        rw [HNO.out]
        exact (MapKept.heap_alloc w1 _).1
      · constructor
        · intro h
          cases h
        · rintro ⟨h, _⟩
          cases h
end Go.Proofs.YtobkgamcjfjghaaGreat.Rt
/-
  Contracts of At and Window: the numbers of the items that have the point, that meet the rectangle, rising.
-/
namespace Go.Proofs.YtobkgamcjfjghaaGreat.Rt
open Go.RowKit Go.Joins Go.Maps Go.Proofs.YtobkgamcjfjghaaGreat.Pt Go.Proofs.YtobkgamcjfjghaaGreat.Rc Go.Proofs.YtobkgamcjfjghaaGreat.Rs
set_option linter.unusedVariables false
set_option linter.unusedSimpArgs false
set_option maxHeartbeats 2000000
set_option maxRecDepth 100000
theorem in_mono (px py : Int) : ∀ a b : R4, holdsR a b → inB b.x1 b.y1 b.x2 b.y2 px py = true → inB a.x1 a.y1 a.x2 a.y2 px py = true := by
  intro a b h h2
  unfold holdsR at h
  simp [inB, holdsB] at h h2 ⊢
  omega
theorem mx_le {c a b : Int} (h : a ≤ b) : mx c a ≤ mx c b := by unfold mx; split <;> split <;> omega
theorem mn_le {c a b : Int} (h : a ≤ b) : mn c a ≤ mn c b := by unfold mn; split <;> split <;> omega
theorem meet_mono (o : R4) : ∀ a b : R4, holdsR a b → meetB o b = true → meetB o a = true := by
  intro a b h h2
  obtain ⟨g1, g2, g3, g4⟩ := h
  unfold meetB at h2 ⊢
  rw [ordB_iff] at h2 ⊢
  exact ⟨Int.le_trans (mx_le g1) (Int.le_trans h2.1 (mn_le g3)), Int.le_trans (mx_le g2) (Int.le_trans h2.2 (mn_le g4))⟩
/-- What At and Window tell. -/
def AtE (l : List Int) (w : World) (e : Ending) (w' : World) : Prop := FoE l w e w'
theorem foE_up {l : List Int} {w w0 w' : World} {e : Ending} (hb : Below w.heap.size w w0) (h : FoE l w0 e w') : FoE l w e w' := by
  obtain ⟨s, h1, h2, h3⟩ := h
  exact ⟨s, h1, h2.mono hb.size, hb.trans (h3.mono hb.size)⟩
section
variable {w : World} {t o mb root h : Nat} {σ : St} {V : Nat → Value} {M : Int → Option Nat} {G : List Nat}
theorem Idx.low (x : Idx w t o σ V mb root h M G) (h1 : 4 ≤ o) (h2 : o ≤ 16) (hG : G.length ≤ 2500) : h + 1 ≤ 3000 := by
  have := x.sound.high (least_two h1 h2).1 (by omega)
  omega
end
theorem atT_any (t o mb root h : Nat) (σ : St) (V : Nat → Value) (M : Int → Option Nat) (G : List Nat) (px py : Int) (w : World) (x : Idx w t o σ V mb root h M G) (h1 : 4 ≤ o) (h2 : o ≤ 16) (hG : G.length ≤ 2500) :
    Calls Tryz.prog 19 #[ptr t, .agg #[.int .i64 px, .int .i64 py]] w (FoE (wanted σ (fun r => inB r.x1 r.y1 r.x2 r.y2 px py) (lvs σ (h + 1) root)) w) := by
  obtain ⟨w0, hw0⟩ : ∃ v, v = w.alloc (.cells #[.int .i64 px, .int .i64 py] 24) := ⟨_, rfl⟩
  have b0 : Below w.heap.size w w0 := by rw [hw0]; exact (Below.refl _ _).alloc (Nat.le_refl _) _
  have x0 := x.later b0
  have z0 : w0.cell? ⟨w.heap.size, 0, none⟩ = some (.int .i64 px) := by rw [hw0]; simp [go_sem]
  have z1 : w0.cell? ⟨w.heap.size, 1, none⟩ = some (.int .i64 py) := by rw [hw0]; simp [go_sem]
  have CF := Lib.hid (found_at t o mb root w.heap.size h _ σ V (leastN o) o 2 [] G w0 x0.mem x0.tree (at_wants w.heap.size px py w0 z0 z1) (by omega) x0.sound (x0.low h1 h2 hG) (by omega) (in_mono px py))
  have B0 := Lib.hid b0
  have HW := Lib.hid hw0
  rw [hw0] at CF
  unfold ptr at CF ⊢
  clear x x0 z0 z1 b0 hw0
  go_enter Tryz.func19, Tryz.ntmps19
  go_wp2_with fail
  refine Calls.mono CF.out ?_
  intro e w1 hf
  rw [← HW.out] at hf
  have hf2 := foE_up B0.out hf
  have FIN := Lib.hid hf2
  obtain ⟨s, rfl, -, -⟩ := hf
  clear hf2 CF
  go_wp2_with fail
  go_ret
  exact FIN.out
theorem winT_any (t o mb root h : Nat) (σ : St) (V : Nat → Value) (M : Int → Option Nat) (G : List Nat) (r : R4) (w : World) (x : Idx w t o σ V mb root h M G) (h1 : 4 ≤ o) (h2 : o ≤ 16) (hG : G.length ≤ 2500) :
    Calls Tryz.prog 20 #[ptr t, .agg #[.int .i64 r.x1, .int .i64 r.y1, .int .i64 r.x2, .int .i64 r.y2]] w fun e w' => (rmayB r.x1 r.y1 r.x2 r.y2 = false ∧ e = .returned (.slice none 0 0) ∧ Below w.heap.size w w') ∨ (rmayB r.x1 r.y1 r.x2 r.y2 = true ∧ FoE (wanted σ (meetB r) (lvs σ (h + 1) root)) w e w') := by
  obtain ⟨w0, hw0⟩ : ∃ v, v = w.alloc (.cells #[.int .i64 r.x1, .int .i64 r.y1, .int .i64 r.x2, .int .i64 r.y2] 26) := ⟨_, rfl⟩
  have b0 : Below w.heap.size w w0 := by rw [hw0]; exact (Below.refl _ _).alloc (Nat.le_refl _) _
  have z0 : w0.cell? ⟨w.heap.size, 0, none⟩ = some (.int .i64 r.x1) := by rw [hw0]; simp [go_sem]
  have z1 : w0.cell? ⟨w.heap.size, 1, none⟩ = some (.int .i64 r.y1) := by rw [hw0]; simp [go_sem]
  have z2 : w0.cell? ⟨w.heap.size, 2, none⟩ = some (.int .i64 r.x2) := by rw [hw0]; simp [go_sem]
  have z3 : w0.cell? ⟨w.heap.size, 3, none⟩ = some (.int .i64 r.y2) := by rw [hw0]; simp [go_sem]
  have Z := Lib.hid (And.intro z0 (And.intro z1 (And.intro z2 z3)))
  have SZ := Lib.hid (show w.heap.size < w0.heap.size by rw [hw0]; simp)
  have X := Lib.hid x
  have B0 := Lib.hid b0
  have HW := Lib.hid hw0
  obtain ⟨bm, hbm⟩ : ∃ b, b = rmayB r.x1 r.y1 r.x2 r.y2 := ⟨_, rfl⟩
  have HBM := Lib.hid hbm
  have CM := Lib.hid (rmay_any r.x1 r.y1 r.x2 r.y2 w0)
  rw [← hbm] at CM
  rw [hw0] at CM
  unfold ptr
  clear x z0 z1 z2 z3 b0 hw0 hbm
  go_enter Tryz.func20, Tryz.ntmps20
  go_wp2_with fail
  refine Calls.mono CM.out ?_
  rintro e w1 ⟨rfl, hb1⟩
  rw [← HW.out] at hb1
  have B1 := Lib.hid (B0.out.trans (hb1.mono B0.out.size))
  cases bm with
  | false =>
    clear hb1 CM
    go_wp2_with fail
    go_ret
    exact Or.inl ⟨HBM.out.symm, rfl, B1.out⟩
  | true =>
    have x1 := X.out.later B1.out
    have CF := Lib.hid (found_win t o mb root w.heap.size h _ σ V (leastN o) o 2 [] G w1 x1.mem x1.tree (win_wants w.heap.size r w1 (cell_later hb1 Z.out.1) (cell_later hb1 Z.out.2.1) (cell_later hb1 Z.out.2.2.1) (cell_later hb1 Z.out.2.2.2)) (by omega) x1.sound (x1.low h1 h2 hG) (by omega) (meet_mono r))
    unfold ptr at CF
    clear hb1 CM x1
    go_wp2_with fail
    refine Calls.mono CF.out ?_
    intro e w2 hf
    have FIN := Lib.hid (foE_up B1.out hf)
    obtain ⟨s, rfl, -, -⟩ := hf
    clear CF
    go_wp2_with fail
    go_ret
    exact Or.inr ⟨HBM.out.symm, FIN.out⟩
end Go.Proofs.YtobkgamcjfjghaaGreat.Rt
/-
  The head of layer 14's statements ('up', the document's example) returns true. Memory that was there is left as it was.
-/
namespace Go.Proofs.YtobkgamcjfjghaaGreat.Rt
open Go.RowKit Go.Joins Go.Maps Go.Proofs.YtobkgamcjfjghaaGreat.Pt Go.Proofs.YtobkgamcjfjghaaGreat.Rc Go.Proofs.YtobkgamcjfjghaaGreat.Rs
set_option linter.unusedVariables false
set_option linter.unusedSimpArgs false
set_option maxHeartbeats 2000000
set_option maxRecDepth 100000
theorem eql_argc (w : World) : (binOp .eql 30 (.iface 33 (.int .i64 1)) (.iface 33 (.int .i64 1))).run Tryz.prog w = .ok (.bool true) w := by kernel_rfl
theorem eql_nils (w : World) : (binOp .eql 30 .nilIface .nilIface).run Tryz.prog w = .ok (.bool true) w := by kernel_rfl
theorem neq_nils (w : World) : (binOp .neq 30 .nilIface .nilIface).run Tryz.prog w = .ok (.bool false) w := by kernel_rfl
theorem tree_some (a : Nat) (w : World) : (binOp .eql 28 (.pointer (some ⟨a, 0, none⟩)) (.pointer none)).run Tryz.prog w = .ok (.bool false) w := by kernel_rfl
/-- What a call changes of the index is new memory, where the index is. -/
theorem Mv.below {t mb z : Nat} {w w' : World} {σ σ' : St} {V V' : Nat → Value} (m : Mv t mb w σ V w' σ' V') (ht : z ≤ t) (hm : z ≤ mb) (hf : ∀ k, Foot σ V k → z ≤ k) (hz : z ≤ w.heap.size) : Below z w w' ∧ ∀ k, Foot σ' V' k → z ≤ k :=
  ⟨⟨m.ke.os, m.ke.tape, m.ke.output, m.ke.size, fun k hk => m.ke.block k (by omega) (fun h => by
    rcases h with h | h | h
    · have := hf k h
      omega
    · omega
    · omega)⟩, fun k hk => (m.foot k hk).elim (hf k) (fun h => Nat.le_trans hz h)⟩
theorem up_any (w : World) : Calls Tryz.prog 6 #[] w fun e w' => e = .returned (.bool true) ∧ Below w.heap.size w w' := by
  have q1 := eql_argc
  have q2 := eql_nils
  have q3 := neq_nils
  have q4 := tree_some
  go_enter Tryz.func6, Tryz.ntmps6
  go_wp2_with fail
  refine Calls.mono (newT_any 4 _) ?_
  rintro e w1 (⟨h, -⟩ | ⟨n, t, mb, root, σ, V, hn, h1, h2, rfl, ht, hmb, hf, hb1, x1⟩)
  · omega
  have hn4 : n = 4 := by omega
  subst hn4
  have T1 := Lib.hid ht
  have MB := Lib.hid hmb
  have HF := Lib.hid hf
  have B1 := Lib.hid hb1
  have X1 := Lib.hid x1
  clear ht hmb hf hb1 x1 hn h1 h2
  unfold ptr
  go_wp2_with fail
  refine Calls.mono (newT_any 3 _) ?_
  rintro e w2 (⟨-, rfl, rfl⟩ | ⟨n, t', mb', root', σ', V', hn, h1, h2, -⟩)
  case inr => omega
  have CP := Lib.hid (putT_any t 4 mb root 0 σ V (fun _ => none) [] ⟨0, 0, 2, 2⟩ 7 w2 X1.out (by omega) (by omega) (by unfold wf64; omega) (by simp))
  unfold ptr at CP
  go_wp2_with fail
  refine Calls.mono CP.out ?_
  rintro e w3 (⟨-, ⟨h, -⟩ | ⟨-, -, ⟨h, -⟩ | ⟨-, h, -⟩⟩⟩ | ⟨b, σ', V', rt, h', G', -, -, -, -, rfl, x3, pm, hb, mv⟩)
  · rcases h with h | h
    · exact absurd h (by decide)
    · omega
  · exact absurd rfl h
  · simp at h
  obtain ⟨b3, hf3⟩ := mv.below T1.out MB.out HF.out B1.out.size
  have hG : G' = [b] := List.perm_singleton.1 pm
  subst hG
  have B3 := Lib.hid (B1.out.trans b3)
  have CA := Lib.hid (atT_any t 4 mb rt h' σ' V' _ [b] 1 2 w3 x3 (by omega) (by omega) (by simp))
  have CL := Lib.hid (fun (w4 : World) (hb4 : Below w3.heap.size w3 w4) => len_any t 4 mb rt h' σ' V' _ [b] w4 (x3.later hb4))
  have wt : wanted σ' (fun r => inB r.x1 r.y1 r.x2 r.y2 1 2) (lvs σ' (h' + 1) rt) = [7] := by
    obtain ⟨d, k1, k2, k3, k4, k5, k6, k7, k8⟩ := x3.sound
    rw [List.perm_singleton.1 k8]
    unfold wanted
    simp [rOf_some hb, idOf_some hb, inB]
  rw [wt] at CA
  clear x3 pm hb mv b3 hf3 wt CP
  unfold ptr at CA CL
  go_wp2_with fail
  refine Calls.mono CA.out ?_
  rintro e w4 ⟨s, rfl, hrow, hb4⟩
  have B4 := Lib.hid (B3.out.trans (hb4.mono B3.out.size))
  have CL4 := Lib.hid (CL.out w4 hb4)
  have es : ([7] : List Int).mergeSort (fun x y => decide (x ≤ y)) = [7] := by simp
  rw [es] at hrow
  obtain ⟨g, c, rfl, hg0, hg1⟩ := hrow.form (by simp)
  have c0 := hrow.cellAt 0 (by simp)
  simp only [List.length_cons, List.length_nil, List.map_cons, List.map_nil, List.getElem?_cons_zero] at c0 ⊢
  clear CA CL hb4 hrow es
  go_wp2_with fail
  refine Calls.mono CL4.out ?_
  rintro e w5 ⟨rfl, rfl⟩
  go_wp2_with fail
  go_ret
  exact ⟨rfl, B4.out⟩
end Go.Proofs.YtobkgamcjfjghaaGreat.Rt
/-
  An index told by the list of its items: what Put, Delete, Get, Len, At, Window and the law's Amiss come to.
-/
namespace Go.Proofs.YtobkgamcjfjghaaGreat.Rt
open Go.RowKit Go.Joins Go.Maps Go.Proofs.YtobkgamcjfjghaaGreat.Pt Go.Proofs.YtobkgamcjfjghaaGreat.Rc Go.Proofs.YtobkgamcjfjghaaGreat.Rs
set_option linter.unusedVariables false
set_option linter.unusedSimpArgs false
set_option maxHeartbeats 2000000
set_option maxRecDepth 100000
/-- An item of a part. -/
def itP (σ : St) (k : Nat) : R4 × Int := (rOf σ k, idOf σ k)
/-- The index in t has just the items of l; all that it has lies in blocks from z on. -/
def Ix (z t o : Nat) (l : List (R4 × Int)) (W : World) : Prop :=
  ∃ (mb : Nat) (σ : St) (V : Nat → Value) (root h : Nat) (M : Int → Option Nat) (G : List Nat), Idx W t o σ V mb root h M G ∧ z ≤ t ∧ z ≤ mb ∧ (∀ k, Foot σ V k → z ≤ k) ∧ z ≤ W.heap.size ∧ (G.map (itP σ)).Perm l ∧ ∀ p ∈ l, wf64 p.2 ∧ may4 p.1
section
variable {z t o : Nat} {l : List (R4 × Int)} {W W' : World}
theorem link_mem {σ : St} {V : Nat → Value} {mb root h : Nat} {M : Int → Option Nat} {G : List Nat} (x : Idx W t o σ V mb root h M G) (hp : (G.map (itP σ)).Perm l) (i : Int) : (∃ k, M i = some k) ↔ ∃ p ∈ l, p.2 = i := by
  constructor
  · rintro ⟨k, hk⟩
    obtain ⟨k1, k2⟩ := (x.known i k).1 hk
    exact ⟨itP σ k, (hp.mem_iff).1 (List.mem_map.2 ⟨k, k1, rfl⟩), k2⟩
  · rintro ⟨p, h1, h2⟩
    obtain ⟨k, k1, rfl⟩ := List.mem_map.1 ((hp.mem_iff).2 h1)
    exact ⟨k, (x.known i k).2 ⟨k1, h2⟩⟩
theorem link_none {σ : St} {V : Nat → Value} {mb root h : Nat} {M : Int → Option Nat} {G : List Nat} (x : Idx W t o σ V mb root h M G) (hp : (G.map (itP σ)).Perm l) (i : Int) : M i = none ↔ ∀ p ∈ l, p.2 ≠ i := by
  have := link_mem x hp i
  constructor
  · intro hn p h1 h2
    obtain ⟨k, hk⟩ := this.2 ⟨p, h1, h2⟩
    rw [hn] at hk
    cases hk
  · intro h1
    cases hM : M i with
    | none => rfl
    | some k =>
      obtain ⟨p, h2, h3⟩ := this.1 ⟨k, hM⟩
      exact absurd h3 (h1 p h2)
/-- Numbers are all different. -/
theorem Ix.ids (h : Ix z t o l W) : (l.map Prod.snd).Nodup := by
  obtain ⟨mb, σ, V, root, hh, M, G, x, h1, h2, h3, h4, h5, h6⟩ := h
  have hn := x.sound.nodup
  have h7 : ((G.map (itP σ)).map Prod.snd).Nodup := by
    rw [List.map_map]
    have key : ∀ G' : List Nat, (∀ k ∈ G', k ∈ G) → G'.Nodup → (G'.map (Prod.snd ∘ itP σ)).Nodup := by
      intro G'
      induction G' with
      | nil => intro _ _; simp
      | cons a G' ih =>
        intro hs hnd
        obtain ⟨n1, n2⟩ := List.nodup_cons.1 hnd
        rw [List.map_cons, List.nodup_cons]
        refine ⟨fun hm => ?_, ih (fun k hk => hs k (List.mem_cons_of_mem _ hk)) n2⟩
        obtain ⟨c, c1, c2⟩ := List.mem_map.1 hm
        have e1 := (x.known (idOf σ a) a).2 ⟨hs a (List.mem_cons_self ..), rfl⟩
        have e2 := (x.known (idOf σ a) c).2 ⟨hs c (List.mem_cons_of_mem _ c1), c2⟩
        rw [e1] at e2
        cases e2
        exact n1 c1
    exact key G (fun k hk => hk) hn
  exact ((h5.map Prod.snd).nodup_iff).1 h7
theorem item_stays {t mb : Nat} {w w' : World} {σ σ' : St} {V V' : Nat → Value} {root h : Nat} {M : Int → Option Nat} {G : List Nat} (x : Idx w t o σ V mb root h M G) (mv : Mv t mb w σ V w' σ' V') {k : Nat} (hk : k ∈ G) : itP σ' k = itP σ k := by
  obtain ⟨d, d1, d2, d3, d4⟩ := x.sound.item hk
  have := mv.item k d d1 d2
  unfold itP
  rw [rOf_some d1, rOf_some this, idOf_some d1, idOf_some this]
def IxPut (z t o : Nat) (l : List (R4 × Int)) (r : R4) (i : Int) (W : World) (e : Ending) (w' : World) : Prop :=
  Below z W w' ∧ (((rmayB r.x1 r.y1 r.x2 r.y2 = false ∨ i < 0) ∧ e = .returned (.iface 33 (.int .i64 1)) ∧ Ix z t o l w') ∨
    (rmayB r.x1 r.y1 r.x2 r.y2 = true ∧ ¬ i < 0 ∧ (∃ p ∈ l, p.2 = i) ∧ e = .returned (.iface 33 (.int .i64 10)) ∧ Ix z t o l w') ∨
    (rmayB r.x1 r.y1 r.x2 r.y2 = true ∧ ¬ i < 0 ∧ (∀ p ∈ l, p.2 ≠ i) ∧ 2000 ≤ l.length ∧ e = .returned (.iface 33 (.int .i64 8)) ∧ Ix z t o l w') ∨
    (rmayB r.x1 r.y1 r.x2 r.y2 = true ∧ ¬ i < 0 ∧ (∀ p ∈ l, p.2 ≠ i) ∧ l.length < 2000 ∧ e = .returned .nilIface ∧ Ix z t o (l ++ [(r, i)]) w'))
def IxDel (z t o : Nat) (l : List (R4 × Int)) (i : Int) (W : World) (e : Ending) (w' : World) : Prop :=
  Below z W w' ∧ (((∀ p ∈ l, p.2 ≠ i) ∧ e = .returned (.iface 33 (.int .i64 9)) ∧ Ix z t o l w') ∨
    ((∃ p ∈ l, p.2 = i) ∧ e = .returned .nilIface ∧ ∃ l', Ix z t o l' w' ∧ ∀ p, p ∈ l → p.2 = i → (p :: l').Perm l))
theorem ix_len (h : Ix z t o l W) : Calls Tryz.prog 15 #[ptr t] W fun e w' => e = .returned (.int .i64 (l.length : Int)) ∧ w' = W := by
  obtain ⟨mb, σ, V, root, hg, M, G, x, z1, z2, z3, z4, z5, z6⟩ := h
  have hGl : G.length = l.length := by have := z5.length_eq; rwa [List.length_map] at this
  rw [← hGl]
  exact len_any t o mb root hg σ V M G W x
def IxGet (l : List (R4 × Int)) (i : Int) (W : World) (e : Ending) (w' : World) : Prop :=
  Below W.heap.size W w' ∧ (((∀ p ∈ l, p.2 ≠ i) ∧ e = .returned (.tuple #[.agg #[.int .i64 0, .int .i64 0, .int .i64 0, .int .i64 0], .bool false])) ∨
    ∃ p ∈ l, p.2 = i ∧ e = .returned (.tuple #[.agg #[.int .i64 p.1.x1, .int .i64 p.1.y1, .int .i64 p.1.x2, .int .i64 p.1.y2], .bool true]))
theorem ix_get (i : Int) (h : Ix z t o l W) (hi : wf64 i) : Calls Tryz.prog 14 #[ptr t, .int .i64 i] W (IxGet l i W) := by
  obtain ⟨mb, σ, V, root, hg, M, G, x, z1, z2, z3, z4, z5, z6⟩ := h
  refine Calls.mono (get_any t o mb root hg σ V M G i W x hi) ?_
  rintro e w' ⟨hb, ⟨h1, h2⟩ | ⟨k, d, h1, h2, h3⟩⟩
  · exact ⟨hb, Or.inl ⟨(link_none x z5 i).1 h1, h2⟩⟩
  · obtain ⟨k1, k2⟩ := (x.known i k).1 h1
    refine ⟨hb, Or.inr ⟨itP σ k, (z5.mem_iff).1 (List.mem_map.2 ⟨k, k1, rfl⟩), k2, ?_⟩⟩
    rw [h3]
    unfold itP
    rw [rOf_some h2]
theorem wanted_fnd {σ : St} {V : Nat → Value} {mb root h : Nat} {M : Int → Option Nat} {G : List Nat} (x : Idx W t o σ V mb root h M G) (hp : (G.map (itP σ)).Perm l) (P : R4 → Bool) :
    (wanted σ P (lvs σ (h + 1) root)).mergeSort (fun x y => decide (x ≤ y)) = fndI ((l.filter fun p => P p.1).map Prod.snd) := by
  refine (fndI_eq ?_).symm
  obtain ⟨d, d1, d2, d3, d4, d5, d6, d7, d8⟩ := x.sound
  unfold wanted
  have h1 : ((lvs σ (h + 1) root).map (itP σ)).Perm l := (d8.map _).trans hp
  have h2 := (h1.filter fun p => P p.1).map Prod.snd
  refine h2.symm.trans ?_
  rw [List.filter_map, List.map_map]
  exact List.Perm.refl _
theorem meet_point (r : R4) (px py : Int) : inB r.x1 r.y1 r.x2 r.y2 px py = meetB r ⟨px, py, px, py⟩ := by
  rw [Bool.eq_iff_iff, inB_iff]
  unfold meetB ordB
  simp only [Bool.and_eq_true, decide_eq_true_eq]
  have h1 := mx_cases r.x1 px
  have h2 := mx_cases r.y1 py
  have h3 := mn_cases r.x2 px
  have h4 := mn_cases r.y2 py
  constructor <;> intro h <;> omega
theorem ix_amiss (h : Ix z t o l W) (h1 : 4 ≤ o) (h2 : o ≤ 16) (hl : l.length ≤ 2000) : Calls Tryz.prog 13 #[ptr t, .int .i64 (o : Int)] W fun e w' => e = .returned (.int .i64 0) ∧ Below W.heap.size W w' := by
  obtain ⟨mb, σ, V, root, hg, M, G, x, z1, z2, z3, z4, z5, z6⟩ := h
  have hGl : G.length = l.length := by have := z5.length_eq; rwa [List.length_map] at this
  exact amiss_any t o mb root hg σ V M G W x h1 h2 (by omega) fun k hk => (z6 _ ((z5.mem_iff).1 (List.mem_map.2 ⟨k, hk, rfl⟩))).1
end
end Go.Proofs.YtobkgamcjfjghaaGreat.Rt
namespace Go.Proofs.YtobkgamcjfjghaaGreat.Rt
open Go.RowKit Go.Joins Go.Maps Go.Proofs.YtobkgamcjfjghaaGreat.Pt Go.Proofs.YtobkgamcjfjghaaGreat.Rc Go.Proofs.YtobkgamcjfjghaaGreat.Rs
set_option linter.unusedVariables false
set_option linter.unusedSimpArgs false
set_option maxHeartbeats 2000000
set_option maxRecDepth 100000
/-- The index in t has just the items of l; its blocks are those of F. -/
def Iy (F : Nat → Prop) (t o : Nat) (l : List (R4 × Int)) (W : World) : Prop :=
  ∃ (mb : Nat) (σ : St) (V : Nat → Value) (root h : Nat) (M : Int → Option Nat) (G : List Nat), Idx W t o σ V mb root h M G ∧ (∀ k, F k ↔ Foot σ V k ∨ k = t ∨ k = mb) ∧ (G.map (itP σ)).Perm l ∧ ∀ p ∈ l, wf64 p.2 ∧ may4 p.1
section
variable {F : Nat → Prop} {t o : Nat} {l l' : List (R4 × Int)} {W W' : World}
theorem Iy.lt (h : Iy F t o l W) {k : Nat} (hk : F k) : k < W.heap.size := by
  obtain ⟨mb, σ, V, root, hh, M, G, x, h1, h2, h3⟩ := h
  rcases (h1 k).1 hk with h | h | h
  · exact x.mem.foot_lt h
  · rw [h]; exact x.tree.lt
  · rw [h]; exact x.map.lt
theorem Iy.later (h : Iy F t o l W) (hb : Below W.heap.size W W') : Iy F t o l W' := by
  obtain ⟨mb, σ, V, root, hh, M, G, x, h1, h2, h3⟩ := h
  exact ⟨mb, σ, V, root, hh, M, G, x.later hb, h1, h2, h3⟩
theorem Iy.keep {X : Nat → Prop} (h : Iy F t o l W) (hk : Ke X W W') (hX : ∀ k, F k → ¬ X k) : Iy F t o l W' := by
  obtain ⟨mb, σ, V, root, hh, M, G, x, h1, h2, h3⟩ := h
  refine ⟨mb, σ, V, root, hh, M, G, ⟨x.mem.keep hk fun k hf => hX k ((h1 k).2 (Or.inl hf)), ?_, ?_, x.sound, x.known⟩, h1, h2, h3⟩
  · exact (hk.block t x.tree.lt (hX t ((h1 t).2 (Or.inr (Or.inl rfl))))).trans x.tree
  · exact x.map.same (hk.block mb x.map.lt (hX mb ((h1 mb).2 (Or.inr (Or.inr rfl)))))
theorem Iy.perm (h : Iy F t o l W) (hp : l.Perm l') : Iy F t o l' W := by
  obtain ⟨mb, σ, V, root, hh, M, G, x, h1, h2, h3⟩ := h
  exact ⟨mb, σ, V, root, hh, M, G, x, h1, h2.trans hp, fun p hp' => h3 p ((hp.mem_iff).2 hp')⟩
theorem Iy.ix (h : Iy F t o l W) : Ix 0 t o l W := by
  obtain ⟨mb, σ, V, root, hh, M, G, x, h1, h2, h3⟩ := h
  exact ⟨mb, σ, V, root, hh, M, G, x, Nat.zero_le _, Nat.zero_le _, fun k _ => Nat.zero_le _, Nat.zero_le _, h2, h3⟩
theorem Iy.ids (h : Iy F t o l W) : (l.map Prod.snd).Nodup := h.ix.ids
/-- What a call that changes an index leaves alone, and what the index has then. -/
def Chg (F F' : Nat → Prop) (W w' : World) : Prop := Ke F W w' ∧ ∀ k, F' k → F k ∨ W.heap.size ≤ k
theorem Chg.row {F F' : Nat → Prop} {W W' : World} {base n size : Nat} {ty : TypeId} {v : Value} {xs : List Value} (h : Chg F F' W W') (hr : W.ownsRow base ty size v n xs) (hv : ∀ g, v.ownBlock = some g → ¬ F g) : W'.ownsRow base ty size v n xs ∧ ∀ g, v.ownBlock = some g → ¬ F' g := by
  refine ⟨?_, fun g hg hf => ?_⟩
  · refine ⟨hr.1, ?_⟩
    rcases hr.2 with hn | ⟨g, cap, cur, rfl, hb, hgg, rest⟩
    · exact Or.inl hn
    · exact Or.inr ⟨g, cap, cur, rfl, hb, (h.1.block g (Array.getElem?_eq_some_iff.1 hgg).1 (hv g rfl)).trans hgg, rest⟩
  · rcases h.2 g hf with h1 | h1
    · exact hv g hg h1
    · have := (hr.lt g hg).2
      omega
theorem Chg.block {F F' : Nat → Prop} {W W' : World} (h : Chg F F' W W') {g : Nat} (hg : g < W.heap.size) (hf : ¬ F g) : W'.heap[g]? = W.heap[g]? ∧ ¬ F' g := ⟨h.1.block g hg hf, fun h1 => (h.2 g h1).elim hf (fun h2 => by omega)⟩
theorem Chg.below {F F' : Nat → Prop} {W W' : World} (h : Chg F F' W W') {z : Nat} (hz : z ≤ W.heap.size) (hf : ∀ k, F k → z ≤ k) : Below z W W' ∧ ∀ k, F' k → z ≤ k := by
  refine ⟨h.1.old hz fun k hk hF => ?_, fun k hk => (h.2 k hk).elim (hf k) (fun h => Nat.le_trans hz h)⟩
  have := hf k hF
  omega
theorem mv_chg {mb root h : Nat} {σ σ' : St} {V V' : Nat → Value} {M : Int → Option Nat} {G : List Nat} (x : Idx W t o σ V mb root h M G) (hF : ∀ k, F k ↔ Foot σ V k ∨ k = t ∨ k = mb) (mv : Mv t mb W σ V W' σ' V') : Chg F (fun k => Foot σ' V' k ∨ k = t ∨ k = mb) W W' := by
  refine ⟨mv.ke.mono fun g _ hg => (hF g).2 hg, fun k hk => ?_⟩
  rcases hk with hk | hk | hk
  · exact (mv.foot k hk).imp (fun h => (hF k).2 (Or.inl h)) (fun h => h)
  · exact Or.inl ((hF k).2 (Or.inr (Or.inl hk)))
  · exact Or.inl ((hF k).2 (Or.inr (Or.inr hk)))
def IyNew (o : Int) (W : World) (e : Ending) (w' : World) : Prop :=
  Below W.heap.size W w' ∧ (((o < 4 ∨ 16 < o) ∧ e = .returned (.tuple #[.pointer none, .iface 33 (.int .i64 1)])) ∨
    ∃ (n t : Nat) (F : Nat → Prop), (n : Int) = o ∧ 4 ≤ n ∧ n ≤ 16 ∧ e = .returned (.tuple #[ptr t, .nilIface]) ∧ Iy F t n [] w' ∧ ∀ k, F k → W.heap.size ≤ k)
theorem iy_new (o : Int) (W : World) : Calls Tryz.prog 7 #[.int .i64 o] W (IyNew o W) := by
  refine Calls.mono (newT_any o W) ?_
  rintro e w' (⟨h1, h2, rfl⟩ | ⟨n, t, mb, root, σ, V, hn, h1, h2, rfl, ht, hm, hf, hb, x⟩)
  · exact ⟨Below.refl _ _, Or.inl ⟨h1, h2⟩⟩
  · refine ⟨hb, Or.inr ⟨n, t, fun k => Foot σ V k ∨ k = t ∨ k = mb, hn, h1, h2, rfl, ⟨mb, σ, V, root, 0, _, [], x, fun k => Iff.rfl, List.Perm.refl _, fun p hp => by cases hp⟩, fun k hk => ?_⟩⟩
    rcases hk with hk | hk | hk
    · exact hf k hk
    · rw [hk]; exact ht
    · rw [hk]; exact hm
def IyPut (F : Nat → Prop) (t o : Nat) (l : List (R4 × Int)) (r : R4) (i : Int) (W : World) (e : Ending) (w' : World) : Prop :=
  ((rmayB r.x1 r.y1 r.x2 r.y2 = false ∨ i < 0) ∧ e = .returned (.iface 33 (.int .i64 1)) ∧ Below W.heap.size W w') ∨
    (rmayB r.x1 r.y1 r.x2 r.y2 = true ∧ ¬ i < 0 ∧ (∃ p ∈ l, p.2 = i) ∧ e = .returned (.iface 33 (.int .i64 10)) ∧ Below W.heap.size W w') ∨
    (rmayB r.x1 r.y1 r.x2 r.y2 = true ∧ ¬ i < 0 ∧ (∀ p ∈ l, p.2 ≠ i) ∧ 2000 ≤ l.length ∧ e = .returned (.iface 33 (.int .i64 8)) ∧ Below W.heap.size W w') ∨
    (rmayB r.x1 r.y1 r.x2 r.y2 = true ∧ ¬ i < 0 ∧ (∀ p ∈ l, p.2 ≠ i) ∧ l.length < 2000 ∧ e = .returned .nilIface ∧ ∃ F', Iy F' t o (l ++ [(r, i)]) w' ∧ Chg F F' W w')
theorem iy_put (r : R4) (i : Int) (h : Iy F t o l W) (h1 : 4 ≤ o) (h2 : o ≤ 16) (hi : wf64 i) (hl : l.length ≤ 2000) :
    Calls Tryz.prog 12 #[ptr t, .agg #[.int .i64 r.x1, .int .i64 r.y1, .int .i64 r.x2, .int .i64 r.y2, .int .i64 i]] W (IyPut F t o l r i W) := by
  obtain ⟨mb, σ, V, root, hg, M, G, x, hF, z5, z6⟩ := h
  have hGl : G.length = l.length := by have := z5.length_eq; rwa [List.length_map] at this
  refine Calls.mono (putT_any t o mb root hg σ V M G r i W x h1 h2 hi (by omega)) ?_
  rintro e w' (⟨hb, h3⟩ | ⟨b, σ', V', rt, h', G', p1, p2, p3, p4, p5, y, pm, pb, mv⟩)
  · rcases h3 with ⟨h4, h5⟩ | ⟨h4, h5, ⟨h6, h7⟩ | ⟨h6, h7, h8⟩⟩
    · exact Or.inl ⟨h4, h5, hb⟩
    · refine Or.inr (Or.inl ⟨h4, h5, ?_, h7, hb⟩)
      exact (link_mem x z5 i).1 (by cases hM : M i with
        | none => exact absurd hM h6
        | some k => exact ⟨k, rfl⟩)
    · exact Or.inr (Or.inr (Or.inl ⟨h4, h5, (link_none x z5 i).1 h6, by omega, h8, hb⟩))
  · refine Or.inr (Or.inr (Or.inr ⟨p1, p2, (link_none x z5 i).1 p3, by omega, p5, _, ⟨mb, σ', V', rt, h', _, G', y, fun k => Iff.rfl, ?_, fun p hp => ?_⟩, mv_chg x hF mv⟩))
    · refine (pm.map _).trans ?_
      rw [List.map_cons]
      have e1 : itP σ' b = (r, i) := by unfold itP; rw [rOf_some pb, idOf_some pb]
      have e2 : G.map (itP σ') = G.map (itP σ) := List.map_congr_left fun k hk => item_stays x mv hk
      rw [e1, e2]
      exact (List.Perm.cons _ z5).trans (List.perm_append_singleton (r, i) l).symm
    · rcases List.mem_append.1 hp with hp | hp
      · exact z6 p hp
      · rw [List.mem_singleton] at hp
        subst hp
        exact ⟨hi, p1⟩
theorem one_of {p q : R4 × Int} (hn : (l.map Prod.snd).Nodup) (hp : p ∈ l) (hq : q ∈ l) (h : p.2 = q.2) : p = q := by
  obtain ⟨a, ha, ea⟩ := List.getElem_of_mem hp
  obtain ⟨c, hc, ec⟩ := List.getElem_of_mem hq
  have : a = c := (List.getElem_inj (xs := l.map Prod.snd) (h₀ := by simpa using ha) (h₁ := by simpa using hc) hn).1 (by rw [List.getElem_map, List.getElem_map, ea, ec, h])
  subst this
  rw [← ea, ec]
def IyDel (F : Nat → Prop) (t o : Nat) (l : List (R4 × Int)) (i : Int) (W : World) (e : Ending) (w' : World) : Prop :=
  ((∀ p ∈ l, p.2 ≠ i) ∧ e = .returned (.iface 33 (.int .i64 9)) ∧ w' = W) ∨
    ((∃ p ∈ l, p.2 = i) ∧ e = .returned .nilIface ∧ ∃ F' l', Iy F' t o l' w' ∧ Chg F F' W w' ∧ ∀ p, p ∈ l → p.2 = i → (p :: l').Perm l)
theorem iy_del (i : Int) (h : Iy F t o l W) (h1 : 4 ≤ o) (h2 : o ≤ 16) (hi : wf64 i) (hl : l.length ≤ 2000) :
    Calls Tryz.prog 9 #[ptr t, .int .i64 i] W (IyDel F t o l i W) := by
  have hids := h.ids
  obtain ⟨mb, σ, V, root, hg, M, G, x, hF, z5, z6⟩ := h
  have hGl : G.length = l.length := by have := z5.length_eq; rwa [List.length_map] at this
  refine Calls.mono (delete_any t o mb root hg σ V M G i W x h1 h2 hi (by omega)) ?_
  rintro e w' (⟨p1, p2, rfl⟩ | ⟨k, σ', V', rt, h', G', p1, p2, y, pm, mv⟩)
  · exact Or.inl ⟨(link_none x z5 i).1 p1, p2, rfl⟩
  · have hkG := ((x.known i k).1 p1)
    have hs : ∀ q ∈ G', q ∈ G := fun q hq => (pm.mem_iff).1 (List.mem_cons_of_mem _ hq)
    have e2 : G'.map (itP σ') = G'.map (itP σ) := List.map_congr_left fun q hq => item_stays x mv (hs q hq)
    have pl : (itP σ k :: G'.map (itP σ')).Perm l := by
      rw [e2, ← List.map_cons]
      exact (pm.map _).trans z5
    refine Or.inr ⟨(link_mem x z5 i).1 ⟨k, p1⟩, p2, _, G'.map (itP σ'), ⟨mb, σ', V', rt, h', _, G', y, fun k => Iff.rfl, List.Perm.refl _, fun p hp => z6 p ((pl.mem_iff).1 (List.mem_cons_of_mem _ hp))⟩, mv_chg x hF mv, fun p hp hpi => ?_⟩
    rw [one_of hids hp ((pl.mem_iff).1 (List.mem_cons_self ..)) (hpi.trans hkG.2.symm)]
    exact pl
/-- What At and Window find. -/
def fnL (l : List (R4 × Int)) (P : R4 → Bool) : List Int := fndI ((l.filter fun p => P p.1).map Prod.snd)
theorem fnL_perm (l : List (R4 × Int)) (P : R4 → Bool) : (fnL l P).Perm ((l.filter fun p => P p.1).map Prod.snd) := by
  have := (fold_ins ((l.filter fun p => P p.1).map Prod.snd) [] List.Pairwise.nil).1
  rw [List.append_nil] at this
  exact this
theorem fnL_len (l : List (R4 × Int)) (P : R4 → Bool) : (fnL l P).length ≤ l.length := by
  rw [(fnL_perm l P).length_eq, List.length_map]
  exact List.length_filter_le _ _
theorem fnL_mem {P : R4 → Bool} {i : Int} : i ∈ fnL l P ↔ ∃ p ∈ l, P p.1 = true ∧ p.2 = i := by
  rw [(fnL_perm l P).mem_iff, List.mem_map]
  constructor
  · rintro ⟨p, hp, rfl⟩
    obtain ⟨h1, h2⟩ := List.mem_filter.1 hp
    exact ⟨p, h1, h2, rfl⟩
  · rintro ⟨p, h1, h2, rfl⟩
    exact ⟨p, List.mem_filter.2 ⟨h1, h2⟩, rfl⟩
theorem iy_at (px py : Int) (h : Iy F t o l W) (h1 : 4 ≤ o) (h2 : o ≤ 16) (hl : l.length ≤ 2000) :
    Calls Tryz.prog 19 #[ptr t, .agg #[.int .i64 px, .int .i64 py]] W fun e w' => ∃ s, e = .returned s ∧ w'.ownsRow W.heap.size 3 1 s (fnL l fun r => inB r.x1 r.y1 r.x2 r.y2 px py).length ((fnL l fun r => inB r.x1 r.y1 r.x2 r.y2 px py).map (Value.int .i64)) ∧ Below W.heap.size W w' := by
  obtain ⟨mb, σ, V, root, hg, M, G, x, hF, z5, z6⟩ := h
  have hGl : G.length = l.length := by have := z5.length_eq; rwa [List.length_map] at this
  refine Calls.mono (atT_any t o mb root hg σ V M G px py W x h1 h2 (by omega)) ?_
  rintro e w' ⟨s, h3, h4, h5⟩
  rw [wanted_fnd x z5] at h4
  exact ⟨s, h3, h4, h5⟩
theorem iy_win (r : R4) (h : Iy F t o l W) (h1 : 4 ≤ o) (h2 : o ≤ 16) (hl : l.length ≤ 2000) :
    Calls Tryz.prog 20 #[ptr t, .agg #[.int .i64 r.x1, .int .i64 r.y1, .int .i64 r.x2, .int .i64 r.y2]] W fun e w' => (rmayB r.x1 r.y1 r.x2 r.y2 = false ∧ e = .returned (.slice none 0 0) ∧ Below W.heap.size W w') ∨ (rmayB r.x1 r.y1 r.x2 r.y2 = true ∧ ∃ s, e = .returned s ∧ w'.ownsRow W.heap.size 3 1 s (fnL l (meetB r)).length ((fnL l (meetB r)).map (Value.int .i64)) ∧ Below W.heap.size W w') := by
  obtain ⟨mb, σ, V, root, hg, M, G, x, hF, z5, z6⟩ := h
  have hGl : G.length = l.length := by have := z5.length_eq; rwa [List.length_map] at this
  refine Calls.mono (winT_any t o mb root hg σ V M G r W x h1 h2 (by omega)) ?_
  rintro e w' (⟨h3, h4, h5⟩ | ⟨h3, s, h4, h5, h6⟩)
  · exact Or.inl ⟨h3, h4, h5⟩
  · rw [wanted_fnd x z5] at h5
    exact Or.inr ⟨h3, s, h4, h5, h6⟩
end
end Go.Proofs.YtobkgamcjfjghaaGreat.Rt
