/-
  What the law's walk through an index's nodes has at hand: the told nodes, which of them have been met, how many items have been counted. No function of the program here.
-/
import Derived.Test.YtobkgamcjfjghaaGreatMp18
import Derived.Test.YtobkgamcjfjghaaGreatMp19
import Derived.Test.YtobkgamcjfjghaaGreatMp01
/-
  Contract of Tree.Delete: an item that is there is taken out, and no other; what is no part of the index is left as it was.
-/
namespace Go.Proofs.YtobkgamcjfjghaaGreat.Rt
open Go.RowKit Go.Joins Go.Maps Go.Proofs.YtobkgamcjfjghaaGreat.Pt Go.Proofs.YtobkgamcjfjghaaGreat.Rc Go.Proofs.YtobkgamcjfjghaaGreat.Rs
set_option linter.unusedVariables false
set_option linter.unusedSimpArgs false
set_option maxHeartbeats 2000000
set_option maxRecDepth 100000
theorem flat_sub {f g : Nat → List Nat} : ∀ (l : List Nat), (∀ k ∈ l, (f k).Sublist (g k)) → (l.flatMap f).Sublist (l.flatMap g)
  | [], _ => by simp
  | a :: l, h => by
    rw [List.flatMap_cons, List.flatMap_cons]
    exact (h a (List.mem_cons_self ..)).append (flat_sub l fun k hk => h k (List.mem_cons_of_mem _ hk))
theorem lvs_sub (σ : St) : ∀ (h b : Nat), (lvs σ h b).Sublist (blks σ h b)
  | 0, b => List.Sublist.refl _
  | h + 1, b => by
    simp only [lvs, blks]
    exact (flat_sub _ fun k _ => lvs_sub σ h k).cons _
theorem Tree.nodup {σ : St} {lo hi rlo h b : Nat} {E G : List Nat} (ht : Tree σ lo hi rlo h b E G) : G.Nodup := by
  obtain ⟨d, h1, h2, h3, h4, h5, h6, h7, h8⟩ := ht
  exact (h8.nodup_iff).1 ((lvs_sub σ (h + 1) b).nodup (List.nodup_append.1 h7).1)
/-- The items' map is no part's block, no row's and not the tree's. -/
theorem Idx.apart {w : World} {t o mb root h : Nat} {σ : St} {V : Nat → Value} {M : Int → Option Nat} {G : List Nat} (x : Idx w t o σ V mb root h M G) : ¬ Foot σ V mb ∧ mb ≠ t := by
  obtain ⟨D, ⟨es, clock, k1, _⟩, _⟩ := x.map
  refine ⟨?_, fun e => ?_⟩
  · rintro (⟨d, hd⟩ | ⟨b, d, hd, hg⟩)
    · have := (x.mem.part mb d hd).obj
      rw [k1] at this
      cases this
    · obtain ⟨cur, hc⟩ := (x.mem.part b d hd).rowBlock hg
      rw [k1] at hc
      cases hc
  · have := x.tree
    unfold TAt at this
    rw [← e, k1] at this
    cases this
section
variable {w : World} {mb n : Nat} {M : Int → Option Nat} {i : Int} {ops : Array Oper} {rest : List Oper} {o : Oper} {a : Act} {Q : Exit → Act → World → Prop}
theorem wpList_drop {k : Nat} (h : MapAt w mb M (n + 1)) (hi : wf64 i) (hk : M i = some k) (hg : o.guard = none) (m x : Operand) (hop : o.op = Op.call { callee := Callee.builtin Builtin.delete, args := #[m, x], argTypes := #[60, 3] })
    (hm : a.eval m = .map (some mb)) (hx : a.eval x = .int .i64 i) (hK : ∀ w', MapAt w' mb (at_ M i none) n → w.grownBy w' (some mb) → wpList Tryz.prog ops Q rest (a.put o.dst (.tuple #[])) w') :
    wpList Tryz.prog ops Q (o :: rest) a w := by
  refine wpList_plain hg fun K' hK' => ?_
  obtain ⟨w', hrun, r1, r2⟩ := h.drop hi hk o.type
  unfold Oper.wp
  simp [execOp, hop, resolve, invoke, builtin, hm, hx, hrun, Result.andThen]
  exact hK' _ _ (hK w' r1 r2)
end
/-- What a call may change: the index's blocks; new ones are made. -/
structure Mv (t mb : Nat) (w : World) (σ : St) (V : Nat → Value) (w' : World) (σ' : St) (V' : Nat → Value) : Prop where
  ke : Ke (fun k => Foot σ V k ∨ k = t ∨ k = mb) w w'
  foot : ∀ k, Foot σ' V' k → Foot σ V k ∨ w.heap.size ≤ k
  item : ∀ k d, σ k = some d → d.lvl = -1 → σ' k = some d
def DelE (t o mb root h : Nat) (σ : St) (V : Nat → Value) (M : Int → Option Nat) (G : List Nat) (i : Int) (w : World) (e : Ending) (w' : World) : Prop :=
  (M i = none ∧ e = .returned (.iface 33 (.int .i64 9)) ∧ w' = w) ∨
  ∃ (k : Nat) (σ' : St) (V' : Nat → Value) (rt h' : Nat) (G' : List Nat), M i = some k ∧ e = .returned .nilIface ∧ Idx w' t o σ' V' mb rt h' (at_ M i none) G' ∧ (k :: G').Perm G ∧ Mv t mb w σ V w' σ' V'
/-- The map's entry is struck out: then remove. -/
theorem Idx.removed {w w1 w' : World} {t o mb root h k : Nat} {σ : St} {V : Nat → Value} {M : Int → Option Nat} {G : List Nat} {i : Int} {e : Ending} (x : Idx w t o σ V mb root h M G) (hk : M i = some k) (m1 : MapAt w1 mb (at_ M i none) (G.length - 1)) (hg : w.grownBy w1 (some mb)) (r : RmE o t mb k G w1 σ V e w') :
    e = .returned (.tuple #[]) ∧ ∃ (σ' : St) (V' : Nat → Value) (rt h' : Nat) (G' : List Nat), Idx w' t o σ' V' mb rt h' (at_ M i none) G' ∧ (k :: G').Perm G ∧ Mv t mb w σ V w' σ' V' := by
  obtain ⟨he, σ', V', rt, h', G', st, tr, kp, ht, pm⟩ := r
  obtain ⟨a1, a2⟩ := x.apart
  have hm : mb < w1.heap.size := m1.lt
  have ho := st.out hm a1 a2
  have ke1 : Ke (fun k => Foot σ V k ∨ k = t ∨ k = mb) w w1 := (Ke.refl _ w).grown hg (fun k hk => Or.inl (Or.inr (Or.inr (by cases hk; rfl))))
  have hl := pm.length_eq
  rw [List.length_cons] at hl
  refine ⟨he, σ', V', rt, h', G', ⟨st.mem, tr, ?_, ht, fun j l => ?_⟩, pm, ke1.trans st.ke (fun g hg hY => hY.elim Or.inl (fun e => Or.inr (Or.inl e))), fun g hf => (st.foot g hf).imp id (fun hs => Nat.le_trans hg.size hs), fun g d hd hl => kp.item g d hd hl⟩
  · have := m1.same ho.1
    rw [show G'.length = G.length - 1 by omega]
    exact this
  · have hnd : (k :: G').Nodup := (pm.nodup_iff).2 x.sound.nodup
    have hkn := (List.nodup_cons.1 hnd).1
    have idk : idOf σ k = i := ((x.known i k).1 hk).2
    have idl : ∀ l ∈ G, idOf σ' l = idOf σ l := fun l hl => by
      obtain ⟨d, hd, hlv, _, _⟩ := x.sound.item hl
      rw [idOf_some hd, idOf_some (kp.item l d hd hlv)]
    have inG : ∀ l ∈ G', l ∈ G := fun l hl => (pm.mem_iff).1 (List.mem_cons_of_mem _ hl)
    by_cases e : j = i
    · subst e
      simp only [at_, if_pos rfl]
      refine ⟨fun h => by simp at h, fun ⟨hl, hid⟩ => ?_⟩
      have : M j = some l := (x.known j l).2 ⟨inG l hl, by rw [← idl l (inG l hl)]; exact hid⟩
      rw [hk] at this
      cases this
      exact absurd hl hkn
    · simp only [at_, if_neg e]
      rw [x.known j l]
      constructor
      · rintro ⟨hl, hid⟩
        rcases List.mem_cons.1 ((pm.mem_iff).2 hl) with rfl | hl2
        · exact absurd (hid.symm.trans idk) e
        · exact ⟨hl2, by rw [idl l hl]; exact hid⟩
      · rintro ⟨hl, hid⟩
        exact ⟨inG l hl, by rw [← idl l (inG l hl)]; exact hid⟩
theorem delete_any (t o mb root h : Nat) (σ : St) (V : Nat → Value) (M : Int → Option Nat) (G : List Nat) (i : Int) (w : World) (x : Idx w t o σ V mb root h M G) (h1 : 4 ≤ o) (h2 : o ≤ 16) (hi : wf64 i) (hG : G.length ≤ 2500) :
    Calls Tryz.prog 9 #[ptr t, .int .i64 i] w (DelE t o mb root h σ V M G i w) := by
  obtain ⟨-, t1, -⟩ := x.tree.cells
  obtain ⟨v, hrun, hv⟩ := x.map.look hi
  have X := Lib.hid x
  unfold ptr
  cases hM : M i with
  | none =>
    rw [hM] at hrun
    simp only [Option.isSome_none] at hrun
    have HM := Lib.hid hM
    clear x hv hM
    go_enter Tryz.func9, Tryz.ntmps9
    go_wp2_with fail
    go_ret
    exact Or.inl ⟨HM.out, rfl, rfl⟩
  | some k =>
    have kn := (x.known i k).1 hM
    obtain ⟨d, hd, hlv, hkd, hmay⟩ := x.sound.item kn.1
    have ev := hv k hM
    subst ev
    rw [hM] at hrun
    simp only [Option.isSome_some] at hrun
    have hg1 : 1 ≤ G.length := List.length_pos_of_mem kn.1
    have MP := Lib.hid (show MapAt w mb M (G.length - 1 + 1) by rw [show G.length - 1 + 1 = G.length by omega]; exact x.map)
    have HM := Lib.hid hM
    have HIT := Lib.hid (And.intro hd (And.intro hlv (And.intro hmay kn.1)))
    unfold ptr at hrun
    clear x hv hM hd hlv hkd hmay kn
    go_enter Tryz.func9, Tryz.ntmps9
    go_wp2_with (first | (at_delete; refine wpList_drop MP.out hi HM.out rfl _ _ rfl rfl rfl ?_))
    intro w1 hm1 hgr
    obtain ⟨a1, a2⟩ := X.out.apart
    have kk : Ke (fun k => k = mb) w w1 := (Ke.refl _ w).grown hgr (fun k hk => Or.inl (by cases hk; rfl))
    have CR := Lib.hid (remove_any t o mb root k h d σ V G w1 (X.out.mem.keep kk (fun g hf e => a1 (e ▸ hf))) (X.out.tree.keep kk (fun e => a2 e.symm)) h1 h2 X.out.sound HIT.out.1 HIT.out.2.1 HIT.out.2.2.1 HIT.out.2.2.2 hG)
    have M1 := Lib.hid hm1
    have GR := Lib.hid hgr
    unfold ptr at CR
    clear hm1 hgr kk a1 a2 hrun t1
    go_wp2_with fail
    refine Calls.mono CR.out ?_
    intro e w' hr
    obtain ⟨rfl, σ', V', rt, h', G', y, pm, mv⟩ := X.out.removed HM.out M1.out GR.out hr
    have FIN := Lib.hid (show DelE t o mb root h σ V M G i w (.returned .nilIface) w' from Or.inr ⟨k, σ', V', rt, h', G', HM.out, rfl, y, pm, mv⟩)
    clear hr y pm mv
    go_wp2_with fail
    go_ret
    exact FIN.out
end Go.Proofs.YtobkgamcjfjghaaGreat.Rt
namespace Go.Proofs.YtobkgamcjfjghaaGreat.Rt
open Go.RowKit Go.Joins Go.Proofs.YtobkgamcjfjghaaGreat.Pt Go.Proofs.YtobkgamcjfjghaaGreat.Rc Go.Proofs.YtobkgamcjfjghaaGreat.Rs
set_option linter.unusedVariables false
set_option linter.unusedSimpArgs false
set_option maxRecDepth 100000
def metL (L : List (Nat × Nat)) (B : List Nat) : List Value := L.map fun q => .bool (decide (q.1 ∈ B))
theorem metL_at {L : List (Nat × Nat)} {B : List Nat} {p b l : Nat} (h : L[p]? = some (b, l)) : (metL L B)[p]? = some (.bool (decide (b ∈ B))) := by
  unfold metL
  rw [List.getElem?_map, h]
  rfl
theorem metL_congr {L : List (Nat × Nat)} {B C : List Nat} (h : ∀ c, c ∈ B ↔ c ∈ C) : metL L B = metL L C := by
  unfold metL
  refine List.map_congr_left fun q _ => ?_
  rw [decide_eq_decide.2 (h q.1)]
theorem metL_set {L : List (Nat × Nat)} {B : List Nat} {p b l : Nat} (hn : (L.map Prod.fst).Nodup) (h : L[p]? = some (b, l)) : (metL L B).set p (.bool true) = metL L (b :: B) := by
  obtain ⟨hp, e⟩ := List.getElem?_eq_some_iff.1 h
  unfold metL
  apply List.ext_getElem
  · simp
  · intro i h1 h2
    have hi : i < L.length := by simpa using h2
    rw [List.getElem_set]
    by_cases e1 : p = i
    · subst e1
      rw [if_pos rfl, List.getElem_map, e]
      simp
    · rw [if_neg e1, List.getElem_map, List.getElem_map]
      have hne : L[i].1 ≠ b := fun e2 => e1 (by
        have h3 := (List.getElem_inj (i := p) (j := i) (h₀ := by simpa using hp) (h₁ := by simpa using hi) hn).1 (by rw [List.getElem_map, List.getElem_map, e, e2])
        exact h3)
      congr 1
      rw [decide_eq_decide, List.mem_cons]
      exact ⟨Or.inr, fun h => h.resolve_left hne⟩
theorem metL_nil (L : List (Nat × Nat)) : metL L [] = List.replicate L.length (.bool false) := by
  unfold metL
  apply List.ext_getElem
  · simp
  · intro i h1 h2
    simp
/-- What lies fast: the index, the nodes that were told. -/
structure Ev (w1 : World) (σ : St) (V : Nat → Value) (t o mb root h : Nat) (M : Int → Option Nat) (G : List Nat) (gL : Nat) (L : List (Nat × Nat)) (T : List Tn) : Prop where
  idx : Idx w1 t o σ V mb root h M G
  told : ∀ (p : Nat) (u : Tn), T[p]? = some u → ∀ c, c < 6 → w1.cell? ⟨gL, p * 6 + c, none⟩ = (u.cells σ)[c]?
  kids : ∀ u ∈ T, KRow w1 u.g (u.kids σ)
  bf : Bf σ 0 o h root L.length L (T.map Tn.s)
  pre : T.map (fun u => (u.b, u.l)) = L
  gl : gL < w1.heap.size
  nd : (L.map Prod.fst).Nodup
  wf : ∀ k ∈ G, wf64 (idOf σ k)
structure Lk (w1 : World) (x m2 : Nat) (sL : Value) (o t : Nat) (L : List (Nat × Nat)) (B : List Nat) (items : Nat) (W : World) : Prop where
  below : Below w1.heap.size w1 W
  obj : W.heap[x]? = some (.cells #[sL, .int .i64 (o : Int), ptr t, .slice (some ⟨m2, 0, none⟩) L.length L.length, .int .i64 (items : Int), .bool false] 71 (0, 0))
  met : W.ownsRow w1.heap.size 4 1 (.slice (some ⟨m2, 0, none⟩) L.length L.length) L.length (metL L B)
  xl : w1.heap.size ≤ x
section
variable {w1 W W' : World} {x m2 o t p b l items : Nat} {sL : Value} {L : List (Nat × Nat)} {B C : List Nat}
theorem Lk.congr (h : Lk w1 x m2 sL o t L B items W) (hc : ∀ c, c ∈ B ↔ c ∈ C) : Lk w1 x m2 sL o t L C items W := ⟨h.below, h.obj, by rw [← metL_congr hc]; exact h.met, h.xl⟩
theorem Lk.later (h : Lk w1 x m2 sL o t L B items W) (hb : Below W.heap.size W W') : Lk w1 x m2 sL o t L B items W' :=
  ⟨h.below.trans (hb.mono h.below.size), (hb.block x (Array.getElem?_eq_some_iff.1 h.obj).1).trans h.obj, h.met.kept (row := none) ⟨hb.os, hb.tape, hb.output, hb.size, fun k hk _ => hb.block k hk⟩ (by simp [Value.ownBlock]), h.xl⟩
theorem Lk.m2l (h : Lk w1 x m2 sL o t L B items W) : w1.heap.size ≤ m2 ∧ m2 < W.heap.size ∧ m2 ≠ x := by
  have h1 := h.met.lt m2 rfl
  refine ⟨h1.1, h1.2, fun e => ?_⟩
  obtain ⟨cur, h2⟩ := own_tag h.met (k := m2) rfl
  rw [e, h.obj] at h2
  have := congrArg (fun o => match o with | some (Obj.cells _ t _) => some t | _ => none) h2
  simp at this
theorem Lk.cells (h : Lk w1 x m2 sL o t L B items W) : W.cell? ⟨x, 0, none⟩ = some sL ∧ W.cell? ⟨x, 1, none⟩ = some (.int .i64 (o : Int)) ∧ W.cell? ⟨x, 2, none⟩ = some (ptr t) ∧ W.cell? ⟨x, 3, none⟩ = some (.slice (some ⟨m2, 0, none⟩) L.length L.length) ∧ W.cell? ⟨x, 4, none⟩ = some (.int .i64 (items : Int)) ∧ W.cell? ⟨x, 5, none⟩ = some (.bool false) ∧ ∀ o, W.frozen? ⟨x, o, none⟩ = false := by
  have h1 := h.obj
  refine ⟨?_, ?_, ?_, ?_, ?_, ?_, fun _ => ?_⟩ <;> simp [World.cell?, World.frozen?, h1]
/-- A node is met. -/
theorem Lk.see (h : Lk w1 x m2 sL o t L B items W) (hn : (L.map Prod.fst).Nodup) (hp : L[p]? = some (b, l)) : Lk w1 x m2 sL o t L (b :: B) items (W.setCell ⟨m2, p, none⟩ (.bool true)) ∧ Ke (fun k => k = x ∨ k = m2) W (W.setCell ⟨m2, p, none⟩ (.bool true)) := by
  have hg := h.met.stored p (.bool true)
  refine ⟨⟨h.below.grown hg.2 h.below.size (fun k hk => by cases hk; exact h.m2l.1), (hg.2.block x (Array.getElem?_eq_some_iff.1 h.obj).1 (fun e => h.m2l.2.2 (Option.some.inj e).symm)).trans h.obj, ?_, h.xl⟩, (Ke.refl _ _).set m2 p _ (Or.inl (Or.inr rfl))⟩
  rw [← metL_set hn hp]
  exact hg.1
/-- An item is counted. -/
theorem Lk.count (h : Lk w1 x m2 sL o t L B items W) : Lk w1 x m2 sL o t L B (items + 1) (W.setCell ⟨x, 4, none⟩ (.int .i64 ((items + 1 : Nat) : Int))) ∧ Ke (fun k => k = x ∨ k = m2) W (W.setCell ⟨x, 4, none⟩ (.int .i64 ((items + 1 : Nat) : Int))) := by
  have hk : Ke (fun k => k = x ∨ k = m2) W (W.setCell ⟨x, 4, none⟩ (.int .i64 ((items + 1 : Nat) : Int))) := (Ke.refl _ _).set x 4 _ (Or.inl (Or.inl rfl))
  refine ⟨⟨h.below.setCell h.xl _, ?_, ?_, h.xl⟩, hk⟩
  · have := set_obj h.obj 4 (.int .i64 ((items + 1 : Nat) : Int))
    rw [this]
    rfl
  · have hk2 : Ke (fun k => k = x) W (W.setCell ⟨x, 4, none⟩ (.int .i64 ((items + 1 : Nat) : Int))) := (Ke.refl _ _).set x 4 _ (Or.inl rfl)
    exact h.met.kept (row := some x) ⟨hk2.os, hk2.tape, hk2.output, hk2.size, fun k hk1 hk3 => hk2.block k hk1 (fun e => hk3 (by rw [e]))⟩ (Or.inr (fun e => h.m2l.2.2 (by simpa [Value.ownBlock] using e)))
end
end Go.Proofs.YtobkgamcjfjghaaGreat.Rt
