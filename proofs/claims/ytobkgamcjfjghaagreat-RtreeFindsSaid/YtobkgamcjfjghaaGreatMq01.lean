/-
  What the statement RtreeFinds has between its rounds; an append at an operation of a drawn region; a slice of rectangles that is an argument. No function of the program here.
-/
import Derived.Test.YtobkgamcjfjghaaGreatMf30
import Derived.Test.YtobkgamcjfjghaaGreatMf02
/-
  An index told by the list of its items and by the blocks that it has: what its calls come to, and what they leave alone.
-/
namespace Go.Proofs.YtobkgamcjfjghaaGreat.Rt
open Go.RowKit Go.Joins Go.Maps Go.Proofs.YtobkgamcjfjghaaGreat.Pt Go.Proofs.YtobkgamcjfjghaaGreat.Rc Go.Proofs.YtobkgamcjfjghaaGreat.Rs
set_option linter.unusedVariables false
set_option linter.unusedSimpArgs false
set_option maxHeartbeats 2000000
set_option maxRecDepth 100000
/-- The index in t has just the items of l; its blocks are those of F. -/
def Iy (F : Nat → Prop) (t o : Nat) (l : List (R4 × Int)) (W : World) : Prop :=
  ∃ (mb : Nat) (σ : St) (V : Nat → Value) (root h : Nat) (M : Int → Option Nat) (G : List Nat), Idx W t o σ V mb root h M G ∧ (∀ k, F k ↔ Foot σ V k ∨ k = t ∨ k = mb) ∧ (G.map (itP σ)).Perm l ∧ ∀ p ∈ l, wf64 p.2 ∧ may4 p.1
section
variable {F : Nat → Prop} {t o : Nat} {l l' : List (R4 × Int)} {W W' : World}
theorem Iy.lt (h : Iy F t o l W) {k : Nat} (hk : F k) : k < W.heap.size := by
  obtain ⟨mb, σ, V, root, hh, M, G, x, h1, h2, h3⟩ := h
  rcases (h1 k).1 hk with h | h | h
  · exact x.mem.foot_lt h
  · rw [h]; exact x.tree.lt
  · rw [h]; exact x.map.lt
theorem Iy.later (h : Iy F t o l W) (hb : Below W.heap.size W W') : Iy F t o l W' := by
  obtain ⟨mb, σ, V, root, hh, M, G, x, h1, h2, h3⟩ := h
  exact ⟨mb, σ, V, root, hh, M, G, x.later hb, h1, h2, h3⟩
theorem Iy.keep {X : Nat → Prop} (h : Iy F t o l W) (hk : Ke X W W') (hX : ∀ k, F k → ¬ X k) : Iy F t o l W' := by
  obtain ⟨mb, σ, V, root, hh, M, G, x, h1, h2, h3⟩ := h
  refine ⟨mb, σ, V, root, hh, M, G, ⟨x.mem.keep hk fun k hf => hX k ((h1 k).2 (Or.inl hf)), ?_, ?_, x.sound, x.known⟩, h1, h2, h3⟩
  · exact (hk.block t x.tree.lt (hX t ((h1 t).2 (Or.inr (Or.inl rfl))))).trans x.tree
  · exact x.map.same (hk.block mb x.map.lt (hX mb ((h1 mb).2 (Or.inr (Or.inr rfl)))))
theorem Iy.perm (h : Iy F t o l W) (hp : l.Perm l') : Iy F t o l' W := by
  obtain ⟨mb, σ, V, root, hh, M, G, x, h1, h2, h3⟩ := h
  exact ⟨mb, σ, V, root, hh, M, G, x, h1, h2.trans hp, fun p hp' => h3 p ((hp.mem_iff).2 hp')⟩
theorem Iy.ix (h : Iy F t o l W) : Ix 0 t o l W := by
  obtain ⟨mb, σ, V, root, hh, M, G, x, h1, h2, h3⟩ := h
  exact ⟨mb, σ, V, root, hh, M, G, x, Nat.zero_le _, Nat.zero_le _, fun k _ => Nat.zero_le _, Nat.zero_le _, h2, h3⟩
theorem Iy.ids (h : Iy F t o l W) : (l.map Prod.snd).Nodup := h.ix.ids
/-- What a call that changes an index leaves alone, and what the index has then. -/
def Chg (F F' : Nat → Prop) (W w' : World) : Prop := Ke F W w' ∧ ∀ k, F' k → F k ∨ W.heap.size ≤ k
theorem Chg.same {F : Nat → Prop} {W W' : World} (hb : Below W.heap.size W W') : Chg F F W W' := ⟨Ke.of_below hb, fun k hk => Or.inl hk⟩
theorem Chg.row {F F' : Nat → Prop} {W W' : World} {base n size : Nat} {ty : TypeId} {v : Value} {xs : List Value} (h : Chg F F' W W') (hr : W.ownsRow base ty size v n xs) (hv : ∀ g, v.ownBlock = some g → ¬ F g) : W'.ownsRow base ty size v n xs ∧ ∀ g, v.ownBlock = some g → ¬ F' g := by
  refine ⟨?_, fun g hg hf => ?_⟩
  · refine ⟨hr.1, ?_⟩
    rcases hr.2 with hn | ⟨g, cap, cur, rfl, hb, hgg, rest⟩
    · exact Or.inl hn
    · exact Or.inr ⟨g, cap, cur, rfl, hb, (h.1.block g (Array.getElem?_eq_some_iff.1 hgg).1 (hv g rfl)).trans hgg, rest⟩
  · rcases h.2 g hf with h1 | h1
    · exact hv g hg h1
    · have := (hr.lt g hg).2
      omega
theorem Chg.block {F F' : Nat → Prop} {W W' : World} (h : Chg F F' W W') {g : Nat} (hg : g < W.heap.size) (hf : ¬ F g) : W'.heap[g]? = W.heap[g]? ∧ ¬ F' g := ⟨h.1.block g hg hf, fun h1 => (h.2 g h1).elim hf (fun h2 => by omega)⟩
theorem Chg.below {F F' : Nat → Prop} {W W' : World} (h : Chg F F' W W') {z : Nat} (hz : z ≤ W.heap.size) (hf : ∀ k, F k → z ≤ k) : Below z W W' ∧ ∀ k, F' k → z ≤ k := by
  refine ⟨h.1.old hz fun k hk hF => ?_, fun k hk => (h.2 k hk).elim (hf k) (fun h => Nat.le_trans hz h)⟩
  have := hf k hF
  omega
theorem mv_chg {mb root h : Nat} {σ σ' : St} {V V' : Nat → Value} {M : Int → Option Nat} {G : List Nat} (x : Idx W t o σ V mb root h M G) (hF : ∀ k, F k ↔ Foot σ V k ∨ k = t ∨ k = mb) (mv : Mv t mb W σ V W' σ' V') : Chg F (fun k => Foot σ' V' k ∨ k = t ∨ k = mb) W W' := by
  refine ⟨mv.ke.mono fun g _ hg => (hF g).2 hg, fun k hk => ?_⟩
  rcases hk with hk | hk | hk
  · exact (mv.foot k hk).imp (fun h => (hF k).2 (Or.inl h)) (fun h => h)
  · exact Or.inl ((hF k).2 (Or.inr (Or.inl hk)))
  · exact Or.inl ((hF k).2 (Or.inr (Or.inr hk)))
def IyNew (o : Int) (W : World) (e : Ending) (w' : World) : Prop :=
  Below W.heap.size W w' ∧ (((o < 4 ∨ 16 < o) ∧ e = .returned (.tuple #[.pointer none, .iface 33 (.int .i64 1)])) ∨
    ∃ (n t : Nat) (F : Nat → Prop), (n : Int) = o ∧ 4 ≤ n ∧ n ≤ 16 ∧ e = .returned (.tuple #[ptr t, .nilIface]) ∧ Iy F t n [] w' ∧ ∀ k, F k → W.heap.size ≤ k)
theorem iy_new (o : Int) (W : World) : Calls Tryz.prog 7 #[.int .i64 o] W (IyNew o W) := by
  refine Calls.mono (newT_any o W) ?_
  rintro e w' (⟨h1, h2, rfl⟩ | ⟨n, t, mb, root, σ, V, hn, h1, h2, rfl, ht, hm, hf, hb, x⟩)
  · exact ⟨Below.refl _ _, Or.inl ⟨h1, h2⟩⟩
  · refine ⟨hb, Or.inr ⟨n, t, fun k => Foot σ V k ∨ k = t ∨ k = mb, hn, h1, h2, rfl, ⟨mb, σ, V, root, 0, _, [], x, fun k => Iff.rfl, List.Perm.refl _, fun p hp => by cases hp⟩, fun k hk => ?_⟩⟩
    rcases hk with hk | hk | hk
    · exact hf k hk
    · rw [hk]; exact ht
    · rw [hk]; exact hm
def IyPut (F : Nat → Prop) (t o : Nat) (l : List (R4 × Int)) (r : R4) (i : Int) (W : World) (e : Ending) (w' : World) : Prop :=
  ((rmayB r.x1 r.y1 r.x2 r.y2 = false ∨ i < 0) ∧ e = .returned (.iface 33 (.int .i64 1)) ∧ Below W.heap.size W w') ∨
    (rmayB r.x1 r.y1 r.x2 r.y2 = true ∧ ¬ i < 0 ∧ (∃ p ∈ l, p.2 = i) ∧ e = .returned (.iface 33 (.int .i64 10)) ∧ Below W.heap.size W w') ∨
    (rmayB r.x1 r.y1 r.x2 r.y2 = true ∧ ¬ i < 0 ∧ (∀ p ∈ l, p.2 ≠ i) ∧ 2000 ≤ l.length ∧ e = .returned (.iface 33 (.int .i64 8)) ∧ Below W.heap.size W w') ∨
    (rmayB r.x1 r.y1 r.x2 r.y2 = true ∧ ¬ i < 0 ∧ (∀ p ∈ l, p.2 ≠ i) ∧ l.length < 2000 ∧ e = .returned .nilIface ∧ ∃ F', Iy F' t o (l ++ [(r, i)]) w' ∧ Chg F F' W w')
theorem iy_put (r : R4) (i : Int) (h : Iy F t o l W) (h1 : 4 ≤ o) (h2 : o ≤ 16) (hi : wf64 i) (hl : l.length ≤ 2000) :
    Calls Tryz.prog 12 #[ptr t, .agg #[.int .i64 r.x1, .int .i64 r.y1, .int .i64 r.x2, .int .i64 r.y2, .int .i64 i]] W (IyPut F t o l r i W) := by
  obtain ⟨mb, σ, V, root, hg, M, G, x, hF, z5, z6⟩ := h
  have hGl : G.length = l.length := by have := z5.length_eq; rwa [List.length_map] at this
  refine Calls.mono (putT_any t o mb root hg σ V M G r i W x h1 h2 hi (by omega)) ?_
  rintro e w' (⟨hb, h3⟩ | ⟨b, σ', V', rt, h', G', p1, p2, p3, p4, p5, y, pm, pb, mv⟩)
  · rcases h3 with ⟨h4, h5⟩ | ⟨h4, h5, ⟨h6, h7⟩ | ⟨h6, h7, h8⟩⟩
    · exact Or.inl ⟨h4, h5, hb⟩
    · refine Or.inr (Or.inl ⟨h4, h5, ?_, h7, hb⟩)
      exact (link_mem x z5 i).1 (by cases hM : M i with
        | none => exact absurd hM h6
        | some k => exact ⟨k, rfl⟩)
    · exact Or.inr (Or.inr (Or.inl ⟨h4, h5, (link_none x z5 i).1 h6, by omega, h8, hb⟩))
  · refine Or.inr (Or.inr (Or.inr ⟨p1, p2, (link_none x z5 i).1 p3, by omega, p5, _, ⟨mb, σ', V', rt, h', _, G', y, fun k => Iff.rfl, ?_, fun p hp => ?_⟩, mv_chg x hF mv⟩))
    · refine (pm.map _).trans ?_
      rw [List.map_cons]
      have e1 : itP σ' b = (r, i) := by unfold itP; rw [rOf_some pb, idOf_some pb]
      have e2 : G.map (itP σ') = G.map (itP σ) := List.map_congr_left fun k hk => item_stays x mv hk
      rw [e1, e2]
      exact (List.Perm.cons _ z5).trans (List.perm_append_singleton (r, i) l).symm
    · rcases List.mem_append.1 hp with hp | hp
      · exact z6 p hp
      · rw [List.mem_singleton] at hp
        subst hp
        exact ⟨hi, p1⟩
theorem one_of {p q : R4 × Int} (hn : (l.map Prod.snd).Nodup) (hp : p ∈ l) (hq : q ∈ l) (h : p.2 = q.2) : p = q := by
  obtain ⟨a, ha, ea⟩ := List.getElem_of_mem hp
  obtain ⟨c, hc, ec⟩ := List.getElem_of_mem hq
  have : a = c := (List.getElem_inj (xs := l.map Prod.snd) (h₀ := by simpa using ha) (h₁ := by simpa using hc) hn).1 (by rw [List.getElem_map, List.getElem_map, ea, ec, h])
  subst this
  rw [← ea, ec]
def IyDel (F : Nat → Prop) (t o : Nat) (l : List (R4 × Int)) (i : Int) (W : World) (e : Ending) (w' : World) : Prop :=
  ((∀ p ∈ l, p.2 ≠ i) ∧ e = .returned (.iface 33 (.int .i64 9)) ∧ w' = W) ∨
    ((∃ p ∈ l, p.2 = i) ∧ e = .returned .nilIface ∧ ∃ F' l', Iy F' t o l' w' ∧ Chg F F' W w' ∧ ∀ p, p ∈ l → p.2 = i → (p :: l').Perm l)
theorem iy_del (i : Int) (h : Iy F t o l W) (h1 : 4 ≤ o) (h2 : o ≤ 16) (hi : wf64 i) (hl : l.length ≤ 2000) :
    Calls Tryz.prog 9 #[ptr t, .int .i64 i] W (IyDel F t o l i W) := by
  have hids := h.ids
  obtain ⟨mb, σ, V, root, hg, M, G, x, hF, z5, z6⟩ := h
  have hGl : G.length = l.length := by have := z5.length_eq; rwa [List.length_map] at this
  refine Calls.mono (delete_any t o mb root hg σ V M G i W x h1 h2 hi (by omega)) ?_
  rintro e w' (⟨p1, p2, rfl⟩ | ⟨k, σ', V', rt, h', G', p1, p2, y, pm, mv⟩)
  · exact Or.inl ⟨(link_none x z5 i).1 p1, p2, rfl⟩
  · have hkG := ((x.known i k).1 p1)
    have hs : ∀ q ∈ G', q ∈ G := fun q hq => (pm.mem_iff).1 (List.mem_cons_of_mem _ hq)
    have e2 : G'.map (itP σ') = G'.map (itP σ) := List.map_congr_left fun q hq => item_stays x mv (hs q hq)
    have pl : (itP σ k :: G'.map (itP σ')).Perm l := by
      rw [e2, ← List.map_cons]
      exact (pm.map _).trans z5
    refine Or.inr ⟨(link_mem x z5 i).1 ⟨k, p1⟩, p2, _, G'.map (itP σ'), ⟨mb, σ', V', rt, h', _, G', y, fun k => Iff.rfl, List.Perm.refl _, fun p hp => z6 p ((pl.mem_iff).1 (List.mem_cons_of_mem _ hp))⟩, mv_chg x hF mv, fun p hp hpi => ?_⟩
    rw [one_of hids hp ((pl.mem_iff).1 (List.mem_cons_self ..)) (hpi.trans hkG.2.symm)]
    exact pl
/-- What At and Window find. -/
def fnL (l : List (R4 × Int)) (P : R4 → Bool) : List Int := fndI ((l.filter fun p => P p.1).map Prod.snd)
theorem fnL_perm (l : List (R4 × Int)) (P : R4 → Bool) : (fnL l P).Perm ((l.filter fun p => P p.1).map Prod.snd) := by
  have := (fold_ins ((l.filter fun p => P p.1).map Prod.snd) [] List.Pairwise.nil).1
  rw [List.append_nil] at this
  exact this
theorem fnL_len (l : List (R4 × Int)) (P : R4 → Bool) : (fnL l P).length ≤ l.length := by
  rw [(fnL_perm l P).length_eq, List.length_map]
  exact List.length_filter_le _ _
theorem fnL_mem {P : R4 → Bool} {i : Int} : i ∈ fnL l P ↔ ∃ p ∈ l, P p.1 = true ∧ p.2 = i := by
  rw [(fnL_perm l P).mem_iff, List.mem_map]
  constructor
  · rintro ⟨p, hp, rfl⟩
    obtain ⟨h1, h2⟩ := List.mem_filter.1 hp
    exact ⟨p, h1, h2, rfl⟩
  · rintro ⟨p, h1, h2, rfl⟩
    exact ⟨p, List.mem_filter.2 ⟨h1, h2⟩, rfl⟩
theorem fnL_nodup {P : R4 → Bool} (h : (l.map Prod.snd).Nodup) : (fnL l P).Nodup :=
  ((fnL_perm l P).nodup_iff).2 (h.sublist ((List.filter_sublist).map _))
theorem iy_at (px py : Int) (h : Iy F t o l W) (h1 : 4 ≤ o) (h2 : o ≤ 16) (hl : l.length ≤ 2000) :
    Calls Tryz.prog 19 #[ptr t, .agg #[.int .i64 px, .int .i64 py]] W fun e w' => ∃ s, e = .returned s ∧ w'.ownsRow W.heap.size 3 1 s (fnL l fun r => inB r.x1 r.y1 r.x2 r.y2 px py).length ((fnL l fun r => inB r.x1 r.y1 r.x2 r.y2 px py).map (Value.int .i64)) ∧ Below W.heap.size W w' := by
  obtain ⟨mb, σ, V, root, hg, M, G, x, hF, z5, z6⟩ := h
  have hGl : G.length = l.length := by have := z5.length_eq; rwa [List.length_map] at this
  refine Calls.mono (atT_any t o mb root hg σ V M G px py W x h1 h2 (by omega)) ?_
  rintro e w' ⟨s, h3, h4, h5⟩
  rw [wanted_fnd x z5] at h4
  exact ⟨s, h3, h4, h5⟩
theorem iy_win (r : R4) (h : Iy F t o l W) (h1 : 4 ≤ o) (h2 : o ≤ 16) (hl : l.length ≤ 2000) :
    Calls Tryz.prog 20 #[ptr t, .agg #[.int .i64 r.x1, .int .i64 r.y1, .int .i64 r.x2, .int .i64 r.y2]] W fun e w' => (rmayB r.x1 r.y1 r.x2 r.y2 = false ∧ e = .returned (.slice none 0 0) ∧ Below W.heap.size W w') ∨ (rmayB r.x1 r.y1 r.x2 r.y2 = true ∧ ∃ s, e = .returned s ∧ w'.ownsRow W.heap.size 3 1 s (fnL l (meetB r)).length ((fnL l (meetB r)).map (Value.int .i64)) ∧ Below W.heap.size W w') := by
  obtain ⟨mb, σ, V, root, hg, M, G, x, hF, z5, z6⟩ := h
  have hGl : G.length = l.length := by have := z5.length_eq; rwa [List.length_map] at this
  refine Calls.mono (winT_any t o mb root hg σ V M G r W x h1 h2 (by omega)) ?_
  rintro e w' (⟨h3, h4, h5⟩ | ⟨h3, s, h4, h5, h6⟩)
  · exact Or.inl ⟨h3, h4, h5⟩
  · rw [wanted_fnd x z5] at h5
    exact Or.inr ⟨h3, s, h4, h5, h6⟩
/-- Emptied, there is one node. -/
theorem iy_nodes (h : Iy F t o [] W) (h1 : 4 ≤ o) (h2 : o ≤ 16) :
    Calls Tryz.prog 21 #[ptr t] W fun e w' => (∃ a c, e = .returned (.slice a 1 c)) ∧ Below W.heap.size W w' := by
  obtain ⟨mb, σ, V, root, hg, M, G, x, hF, z5, z6⟩ := h
  have hG : G = [] := by have := z5.length_eq; simpa using this
  subst hG
  have hl2 : 2 ≤ leastN o := by unfold leastN; omega
  have h0 : hg = 0 := by have := x.sound.high hl2 (by omega); simpa using this
  subst h0
  refine Calls.mono (nodes_any t o mb root 0 σ V (leastN o) o 2 [] [] W x.mem x.tree x.sound (by omega) (Nat.le_trans (x.sound.inns hl2) (by simp))) ?_
  rintro e w' ⟨s, vn, L, T, rfl, hNo⟩
  have hL : L.length = 1 := by
    have := hNo.bf.done.length_eq
    rw [List.length_map] at this
    rw [this]
    have e1 : (kidsOf σ root).flatMap (inn σ 0) = [] := by rw [List.flatMap_eq_nil_iff]; intro k _; rfl
    have e2 : inn σ (0 + 1) root = root :: (kidsOf σ root).flatMap (inn σ 0) := rfl
    rw [e2, e1]
    rfl
  refine ⟨?_, hNo.below⟩
  rcases hNo.told.2 with ⟨e, e2⟩ | ⟨g, c, cur, e, _⟩
  · omega
  · rw [e, hL]; exact ⟨_, _, rfl⟩
end
end Go.Proofs.YtobkgamcjfjghaaGreat.Rt
/-
  Facts of the program's comparisons, and a new index. What the walks of the statements of rtree share.
-/
namespace Go.Proofs.YtobkgamcjfjghaaGreat.Rt
open Go.RowKit Go.Joins Go.Maps Go.Proofs.YtobkgamcjfjghaaGreat.Pt Go.Proofs.YtobkgamcjfjghaaGreat.Rc Go.Proofs.YtobkgamcjfjghaaGreat.Rs
set_option linter.unusedVariables false
set_option linter.unusedSimpArgs false
set_option maxHeartbeats 4000000
set_option maxRecDepth 100000
theorem tree_nil (w : World) : (binOp .eql 28 (.pointer none) (.pointer none)).run Tryz.prog w = .ok (.bool true) w := by kernel_rfl
theorem tree_nnil (w : World) : (binOp .neq 28 (.pointer none) (.pointer none)).run Tryz.prog w = .ok (.bool false) w := by kernel_rfl
theorem tree_nsome (a : Nat) (w : World) : (binOp .neq 28 (.pointer (some ⟨a, 0, none⟩)) (.pointer none)).run Tryz.prog w = .ok (.bool true) w := by kernel_rfl
theorem eql_argn (w : World) : (binOp .eql 30 (.iface 33 (.int .i64 1)) .nilIface).run Tryz.prog w = .ok (.bool false) w := by kernel_rfl
theorem eql_full (w : World) : (binOp .eql 30 (.iface 33 (.int .i64 8)) (.iface 33 (.int .i64 8))).run Tryz.prog w = .ok (.bool true) w := by kernel_rfl
theorem eql_twice (w : World) : (binOp .eql 30 (.iface 33 (.int .i64 10)) (.iface 33 (.int .i64 10))).run Tryz.prog w = .ok (.bool true) w := by kernel_rfl
theorem eql_bo (b : Bool) (w : World) : (binOp .eql 4 (.bool b) (.bool b)).run Tryz.prog w = .ok (.bool true) w := by cases b <;> kernel_rfl
theorem Ix.down {z z' t o : Nat} {l : List (R4 × Int)} {W : World} (h : Ix z t o l W) (hz : z' ≤ z) : Ix z' t o l W := by
  obtain ⟨mb, σ, V, root, hh, M, G, x, h1, h2, h3, h4, h5, h6⟩ := h
  exact ⟨mb, σ, V, root, hh, M, G, x, Nat.le_trans hz h1, Nat.le_trans hz h2, fun k hk => Nat.le_trans hz (h3 k hk), Nat.le_trans hz h4, h5, h6⟩
theorem Ix.perm {z t o : Nat} {l l' : List (R4 × Int)} {W : World} (h : Ix z t o l W) (hp : l.Perm l') : Ix z t o l' W := by
  obtain ⟨mb, σ, V, root, hh, M, G, x, h1, h2, h3, h4, h5, h6⟩ := h
  exact ⟨mb, σ, V, root, hh, M, G, x, h1, h2, h3, h4, h5.trans hp, fun p hp' => h6 p ((hp.mem_iff).2 hp')⟩
def IxNew (o : Int) (W : World) (e : Ending) (w' : World) : Prop :=
  Below W.heap.size W w' ∧ (((o < 4 ∨ 16 < o) ∧ e = .returned (.tuple #[.pointer none, .iface 33 (.int .i64 1)])) ∨
    ∃ n t : Nat, (n : Int) = o ∧ 4 ≤ n ∧ n ≤ 16 ∧ e = .returned (.tuple #[ptr t, .nilIface]) ∧ Ix W.heap.size t n [] w')
theorem ix_new (o : Int) (W : World) : Calls Tryz.prog 7 #[.int .i64 o] W (IxNew o W) := by
  refine Calls.mono (newT_any o W) ?_
  rintro e w' (⟨h1, h2, rfl⟩ | ⟨n, t, mb, root, σ, V, hn, h1, h2, rfl, ht, hm, hf, hb, x⟩)
  · exact ⟨Below.refl _ _, Or.inl ⟨h1, h2⟩⟩
  · exact ⟨hb, Or.inr ⟨n, t, hn, h1, h2, rfl, mb, σ, V, root, 0, _, [], x, ht, hm, hf, hb.size, List.Perm.refl _, fun p hp => by cases hp⟩⟩
end Go.Proofs.YtobkgamcjfjghaaGreat.Rt
namespace Go.Proofs.YtobkgamcjfjghaaGreat.Rt
open Go.RowKit Go.Joins Go.Maps Go.Proofs.YtobkgamcjfjghaaGreat.Pt Go.Proofs.YtobkgamcjfjghaaGreat.Rc Go.Proofs.YtobkgamcjfjghaaGreat.Rs
set_option linter.unusedVariables false
set_option linter.unusedSimpArgs false
set_option maxHeartbeats 2000000
set_option maxRecDepth 100000
/-- A slice that holds rectangles, an argument. -/
def RcL (W : World) (A : Option Addr) (l : List R4) : Prop := 0 < l.length → ∃ g o, A = some ⟨g, o, none⟩ ∧ g < W.heap.size ∧ ∀ (k : Nat) (h : k < l.length), W.cell? ⟨g, o + k * 4, none⟩ = some (.int .i64 l[k].x1) ∧ W.cell? ⟨g, o + k * 4 + 1, none⟩ = some (.int .i64 l[k].y1) ∧ W.cell? ⟨g, o + k * 4 + 2, none⟩ = some (.int .i64 l[k].x2) ∧ W.cell? ⟨g, o + k * 4 + 3, none⟩ = some (.int .i64 l[k].y2)
theorem wp_append_at {P : Program} {w : World} {o : Oper} {a : Act} {K : Act → World → Prop} {Q : Exit → Act → World → Prop} (s x : Operand) (t : TypeId)
    (ho : o.op = .call { callee := .builtin .append, args := #[s, x], argTypes := #[t, t] })
    (base : Nat) (e : TypeId) (i : TypeInfo) (z : Value) (size bytes : Nat) (ht : P.underlying t = some (.slice e)) (hi : P.info? e = some i) (hz : i.zero = some z)
    (hsize : i.size = size) (hby : i.bytes = bytes) (hzs : z.cells.size = size) (hsz : 0 < size)
    (v : Value) (n : Nat) (xs : List Value) (hs : a.eval s = v) (hown : w.ownsRow base e size v n xs)
    (ad : Addr) (m c : Nat) (news : List Value) (hx : a.eval x = .slice (some ad) m c) (hl : news.length = m * size) (hnews : ∀ j u, news[j]? = some u → w.cell? (ad.add j) = some u) (h1 : ∀ u ∈ news, u.oneCell' = true)
    (h63 : n + m ≤ maxLen) (hbytes : (n + m) * bytes ≤ 140737488355328) (hbase : base ≤ w.heap.size)
    (h : ∀ v' w', w'.ownsRow base e size v' (n + m) (xs ++ news) → w.grownBy w' v.ownBlock → (v'.ownBlock = v.ownBlock ∨ v'.ownBlock = some w.heap.size) → K (a.put o.dst v') w') : o.wp P a w K Q := by
  obtain ⟨v', w', hr, h2, h3, h4, h5⟩ := run_append_own_at (P := P) w base t o.type e i z size bytes ht hi hz hsize hby hzs hsz v n xs hown ad m c news hl hnews h1 h63 hbytes hbase
  unfold Oper.wp execOp
  simp only [ho, resolve, invoke, builtin, Sem.run_bind, Sem.run_pure, Result.andThen_ok, List.map_toArray, List.map_cons, List.map_nil, hs, hx, hr]
  exact h v' w' h2 h3 h5
def gR (l : List R4) (q : Nat) : R4 := l.getD q ⟨0, 0, 0, 0⟩
theorem gR_at {l : List R4} {q : Nat} (h : q < l.length) : gR l q = l[q] := by unfold gR; simp [List.getD, h]
/-- The items of some numbers. -/
def its (l : List R4) (th : List Nat) : List (R4 × Int) := th.map fun q => (gR l q, (q : Int))
def nmV (th : List Nat) : List Value := th.map fun (q : Nat) => .int .i64 (q : Int)
theorem its_len (l : List R4) (th : List Nat) : (its l th).length = th.length := by unfold its; simp
theorem its_in {l : List R4} {th : List Nat} {i : Int} : (∃ p ∈ its l th, p.2 = i) ↔ ∃ q : Nat, q ∈ th ∧ (q : Int) = i := by
  unfold its
  constructor
  · rintro ⟨p, hp, rfl⟩
    obtain ⟨q, hq, rfl⟩ := List.mem_map.1 hp
    exact ⟨q, hq, rfl⟩
  · rintro ⟨q, hq, rfl⟩
    exact ⟨_, List.mem_map.2 ⟨q, hq, rfl⟩, rfl⟩
theorem its_snoc (l : List R4) (th : List Nat) (q : Nat) : its l (th ++ [q]) = its l th ++ [(gR l q, (q : Int))] := by unfold its; rw [List.map_append]; rfl
/-- One is taken out. -/
theorem its_out {l : List R4} {th : List Nat} {k : Nat} {l' : List (R4 × Int)} (hk : k < th.length) (h : ((gR l th[k], (th[k] : Int)) :: l').Perm (its l th)) : l'.Perm (its l (th.take k ++ th.drop (k + 1))) := by
  have e : th = th.take k ++ th[k] :: th.drop (k + 1) := by rw [← List.drop_eq_getElem_cons hk, List.take_append_drop]
  have h2 : (its l th).Perm ((gR l th[k], (th[k] : Int)) :: its l (th.take k ++ th.drop (k + 1))) := by
    have : its l th = its l (th.take k) ++ (gR l th[k], (th[k] : Int)) :: its l (th.drop (k + 1)) := by
      have := congrArg (its l) e
      rw [this]
      unfold its
      rw [List.map_append, List.map_cons]
    rw [this]
    unfold its
    rw [List.map_append]
    exact List.perm_middle
  exact (List.perm_cons _).1 (h.trans h2)
structure Fi (w : World) (l : List R4) (t o N : Nat) (j : Nat) (th : List Nat) (F : Nat → Prop) (v : Value) (W : World) : Prop where
  iy : Iy F t o (its l th) W
  row : W.ownsRow w.heap.size 3 1 v th.length (nmV th)
  out : ∀ g, v.ownBlock = some g → ¬ F g
  above : ∀ k, F k → w.heap.size ≤ k
  below : Below w.heap.size w W
  nd : th.Nodup
  mem : ∀ q ∈ th, q < j ∧ may4 (gR l q)
  few : th.length ≤ j
section
variable {w W W' : World} {l : List R4} {t o N j : Nat} {th : List Nat} {F F' : Nat → Prop} {v v' : Value}
theorem Iy.grown {lx : List (R4 × Int)} {row : Option Nat} (h : Iy F t o lx W) (hg : W.grownBy W' row) (hr : ∀ g, row = some g → ¬ F g) : Iy F t o lx W' :=
  h.keep (X := fun k => row = some k) ⟨hg.os, hg.tape, hg.output, hg.size, fun k hk hx => hg.block k hk (fun e => hx e.symm)⟩ fun k hk hx => hr k hx hk
theorem Fi.more (h : Fi w l t o N j th F v W) : Fi w l t o N (j + 1) th F v W := ⟨h.iy, h.row, h.out, h.above, h.below, h.nd, fun q hq => ⟨Nat.lt_succ_of_lt (h.mem q hq).1, (h.mem q hq).2⟩, Nat.le_succ_of_le h.few⟩
theorem Fi.later (h : Fi w l t o N j th F v W) (hb : Below W.heap.size W W') : Fi w l t o N j th F v W' :=
  ⟨h.iy.later hb, h.row.kept (row := none) ⟨hb.os, hb.tape, hb.output, hb.size, fun k hk _ => hb.block k hk⟩ (by cases v.ownBlock <;> simp), h.out, h.above, h.below.trans (hb.mono h.below.size), h.nd, h.mem, h.few⟩
end
end Go.Proofs.YtobkgamcjfjghaaGreat.Rt
