/-
  What holds on the way up of add, and what each of its four arms comes to. No function of the program here.
-/
import Derived.Test.YtobkgamcjfjghaaGreatMp10
import Derived.Test.YtobkgamcjfjghaaGreatMp12
/-
  Steps of an R*-tree in memory: what lies outside stays, whatever is done to parts; and plain facts for the way up. No function of the program here.
-/
namespace Go.Proofs.YtobkgamcjfjghaaGreat.Rt
open Go.RowKit Go.Proofs.YtobkgamcjfjghaaGreat.Pt Go.Proofs.YtobkgamcjfjghaaGreat.Rc Go.Proofs.YtobkgamcjfjghaaGreat.Rs
set_option linter.unusedVariables false
set_option linter.unusedSimpArgs false
section
variable {σ τ σ1 σ2 : St} {V V1 V2 : Nat → Value} {t : Nat} {a b c w w' : World}
theorem foot_upd {b : Nat} {d : Pd} {s : Value} {k : Nat} (h : Foot (upd σ b d) (updV V b s) k) : k = b ∨ s.ownBlock = some k ∨ Foot σ V k := by
  rcases h with ⟨d', h⟩ | ⟨c, d', h, hg⟩
  · by_cases e : k = b
    · exact Or.inl e
    · rw [upd_other _ _ e] at h
      exact Or.inr (Or.inr (Or.inl ⟨d', h⟩))
  · by_cases e : c = b
    · subst e
      rw [updV_same] at hg
      exact Or.inr (Or.inl hg)
    · rw [upd_other _ _ e] at h
      rw [updV_other _ _ e] at hg
      exact Or.inr (Or.inr (Or.inr ⟨c, d', h, hg⟩))
/-- A step: parts are changed, and made; what is no part's and not the tree's own block stays. -/
structure Stp (t : Nat) (w : World) (σ : St) (V : Nat → Value) (w' : World) (σ' : St) (V' : Nat → Value) : Prop where
  mem : Mem w' σ' V'
  foot : ∀ k, Foot σ' V' k → Foot σ V k ∨ w.heap.size ≤ k
  ke : Ke (fun k => Foot σ V k ∨ k = t) w w'
theorem Stp.refl (t : Nat) (h : Mem w σ V) : Stp t w σ V w σ V := ⟨h, fun k hk => Or.inl hk, Ke.refl _ _⟩
theorem Stp.trans (h : Stp t a σ V b σ1 V1) (k : Stp t b σ1 V1 c σ2 V2) : Stp t a σ V c σ2 V2 :=
  ⟨k.mem, fun x hx => (k.foot x hx).elim (h.foot x) (fun hb => Or.inr (Nat.le_trans h.ke.size hb)), h.ke.trans k.ke fun g hg hY => hY.elim (fun hf => (h.foot g hf).elim Or.inl (fun hb => by omega)) Or.inr⟩
theorem Stp.below (h : Stp t a σ V b σ1 V1) (k : Below b.heap.size b c) : Stp t a σ V c σ1 V1 := ⟨h.mem.later k, h.foot, h.ke.below k⟩
/-- Outside. -/
theorem Stp.out (h : Stp t w σ V w' σ1 V1) {k : Nat} (hk : k < w.heap.size) (hf : ¬ Foot σ V k) (ht : k ≠ t) : w'.heap[k]? = w.heap[k]? ∧ ¬ Foot σ1 V1 k :=
  ⟨h.ke.block k hk (fun hx => hx.elim hf ht), fun hx => (h.foot k hx).elim hf (fun hb => by omega)⟩
theorem Stp.of_put {n : Nat} {d d' : Pd} {s : Value} (hM : Mem w σ V) (hd : σ n = some d) (hM2 : Mem w' (upd σ n d') (updV V n s)) (hk : Ke (fun k => k = n ∨ (V n).ownBlock = some k) w w') (hs : ∀ k, s.ownBlock = some k → (V n).ownBlock = some k ∨ w.heap.size ≤ k) : Stp t w σ V w' (upd σ n d') (updV V n s) := by
  refine ⟨hM2, fun k hk' => ?_, hk.mono fun g _ hg => Or.inl ?_⟩
  · rcases foot_upd hk' with rfl | h | h
    · exact Or.inl (Or.inl ⟨d, hd⟩)
    · rcases hs k h with h | h
      · exact Or.inl (Or.inr ⟨n, d, hd, h⟩)
      · exact Or.inr h
    · exact Or.inl h
  · rcases hg with rfl | hg
    · exact Or.inl ⟨d, hd⟩
    · exact Or.inr ⟨n, d, hd, hg⟩
theorem updV_self (V : Nat → Value) (n : Nat) : updV V n (V n) = V := by
  funext k
  unfold updV
  split
  · rename_i e; rw [e]
  · rfl
/-- A node's rectangle, fit. -/
theorem Stp.of_fit {n : Nat} {d d' : Pd} (hM : Mem w σ V) (hd : σ n = some d) (hp : PAt w' n d' (V n)) (hk : Ke (fun k => k = n) w w') : Stp t w σ V w' (upd σ n d') V := by
  have h := Stp.of_put (t := t) hM hd (hM.put hd hp (hk.mono fun g _ hg => Or.inl hg) (fun c e g hc hne hg h2 => hne (hM.apart c n e d g hc hd hg h2))) (hk.mono fun g _ hg => Or.inl hg) (fun k hk => Or.inl hk)
  rw [updV_self] at h
  exact h
theorem Stp.of_split {n o : Nat} {d dn dO : Pd} {s1 s2 : Value} (hd : σ n = some d) (ho : w.heap.size ≤ o) (h1 : ∀ k, s1.ownBlock = some k → w.heap.size ≤ k) (h2 : ∀ k, s2.ownBlock = some k → w.heap.size ≤ k)
    (hM2 : Mem w' (upd (upd σ o dO) n dn) (updV (updV V o s1) n s2)) (hk : Ke (fun k => k = n) w w') : Stp t w σ V w' (upd (upd σ o dO) n dn) (updV (updV V o s1) n s2) := by
  refine ⟨hM2, fun k hk' => ?_, hk.mono fun g _ hg => Or.inl (Or.inl ⟨d, by rw [hg]; exact hd⟩)⟩
  rcases foot_upd hk' with rfl | h | h
  · exact Or.inl (Or.inl ⟨d, hd⟩)
  · exact Or.inr (h2 k h)
  · rcases foot_upd h with rfl | h | h
    · exact Or.inr ho
    · exact Or.inr (h1 k h)
    · exact Or.inl h
/-- A new node; its row is new, too. -/
theorem Stp.of_new {n : Nat} {d : Pd} {s : Value} (hn : w.heap.size ≤ n) (hs : ∀ k, s.ownBlock = some k → w.heap.size ≤ k) (hM2 : Mem w' (upd σ n d) (updV V n s)) (hk : Below w.heap.size w w') : Stp t w σ V w' (upd σ n d) (updV V n s) := by
  refine ⟨hM2, fun k hk' => ?_, Ke.of_below hk⟩
  rcases foot_upd hk' with rfl | h | h
  · exact Or.inr hn
  · exact Or.inr (hs k h)
  · exact Or.inl h
/-- The tree's own block is written. -/
theorem Stp.of_tree (hM : Mem w σ V) (ht : ¬ Foot σ V t) (i : Nat) (v : Value) : Stp t w σ V (w.setCell ⟨t, i, none⟩ v) σ V := by
  have hk : Ke (fun k => k = t) w (w.setCell ⟨t, i, none⟩ v) := (Ke.refl _ w).set t i v (Or.inl rfl)
  exact ⟨hM.keep hk (fun k hf e => ht (e ▸ hf)), fun k hk => Or.inl hk, hk.mono fun g _ hg => Or.inr hg⟩
/-- A kid is appended to a node's row. -/
theorem mem_more {n x : Nat} {d : Pd} {s : Value} {W1 : World} (hM : Mem w σ V) (hd : σ n = some d) (hg : w.grownBy W1 (V n).ownBlock) (hr : W1.ownsRow 0 61 1 s (d.kids ++ [x]).length ((d.kids ++ [x]).map ptr)) (hs : ∀ k, s.ownBlock = some k → (V n).ownBlock = some k ∨ k = w.heap.size) :
    Mem (W1.setCell ⟨n, 6, none⟩ s) (upd σ n { d with kids := d.kids ++ [x] }) (updV V n s) ∧ Ke (fun k => k = n ∨ (V n).ownBlock = some k) w (W1.setCell ⟨n, 6, none⟩ s) := by
  have k1 : Ke (fun k => k = n ∨ (V n).ownBlock = some k) w W1 := (Ke.refl _ w).grown hg (fun k hk => Or.inl (Or.inr hk))
  have k2 := k1.set n 6 s (Or.inl (Or.inl rfl))
  have hP := hM.part n d hd
  have hT := hM.tags hd hd
  have hn : W1.heap[n]? = some (.cells (pdC d (V n)) 75 (0, 0)) := (hg.block n hP.lt (fun e => hT e.symm)).trans hP.obj
  have ht : s.ownBlock ≠ some n := fun e => by
    rcases hs n e with h | h
    · exact hT h
    · have := hP.lt; omega
  have P2 : PAt (W1.setCell ⟨n, 6, none⟩ s) n { d with kids := d.kids ++ [x] } s := by
    refine ⟨?_, ?_⟩
    · rw [set_obj hn 6 s]
      simp [pdC]
    · refine ⟨hr.1, ?_⟩
      rcases hr.2 with ⟨e, e2⟩ | ⟨g, c', cur, e, h1, h2, h3⟩
      · exact Or.inl ⟨e, e2⟩
      · have hgn : g ≠ n := fun e' => ht (by rw [e, e']; rfl)
        exact Or.inr ⟨g, c', cur, e, h1, by rw [Below.heap_setCell _ _ _ _ hgn]; exact h2, h3⟩
  refine ⟨hM.put hd P2 k2 (fun c e g hc hne hV h2 => ?_), k2⟩
  rcases hs g h2 with h | h
  · exact hne (hM.apart c n e d g hc hd hV h)
  · have := hM.foot_lt (Or.inr ⟨c, e, hc, hV⟩); omega
end
/-- Parts outside, and items, stay as they are; parts stay parts. -/
structure Kps (σ τ : St) (E : List Nat) : Prop where
  out : ∀ k ∈ E, τ k = σ k
  item : ∀ k d, σ k = some d → d.lvl = -1 → τ k = some d
  part : ∀ k d, σ k = some d → ∃ d', τ k = some d'
section
variable {σ τ ρ : St} {E : List Nat}
theorem Kps.refl (σ : St) (E : List Nat) : Kps σ σ E := ⟨fun _ _ => rfl, fun _ _ h _ => h, fun _ d h => ⟨d, h⟩⟩
theorem Kps.trans (h : Kps σ τ E) (k : Kps τ ρ E) : Kps σ ρ E := ⟨fun x hx => (k.out x hx).trans (h.out x hx), fun x d hd hl => k.item x d (h.item x d hd hl) hl, fun x d hd => by
  obtain ⟨d', h'⟩ := h.part x d hd
  exact k.part x d' h'⟩
theorem Kps.sub (h : Kps σ τ E) {E2 : List Nat} (hs : ∀ k ∈ E2, k ∈ E) : Kps σ τ E2 := ⟨fun k hk => h.out k (hs k hk), h.item, h.part⟩
theorem Kps.upd {b : Nat} {d d' : Pd} (hd : σ b = some d) (hl : d.lvl ≠ -1) (hb : b ∉ E) : Kps σ (Rt.upd σ b d') E := by
  refine ⟨fun k hk => upd_other _ _ (fun e => hb (e ▸ hk)), fun k d2 h2 hl2 => ?_, fun k d2 h2 => ?_⟩
  · have e : k ≠ b := fun e => by
      subst e
      rw [hd] at h2
      cases h2
      exact hl hl2
    rw [upd_other _ _ e]
    exact h2
  · by_cases e : k = b
    · subst e; exact ⟨_, upd_same _ _ _⟩
    · rw [upd_other _ _ e]; exact ⟨d2, h2⟩
theorem Kps.new {b : Nat} {d' : Pd} (hd : σ b = none) (hE : ∀ k ∈ E, ∃ d, σ k = some d) : Kps σ (Rt.upd σ b d') E := by
  have ne : ∀ k d, σ k = some d → k ≠ b := fun k d h e => by rw [e, hd] at h; cases h
  refine ⟨fun k hk => ?_, fun k d2 h2 _ => ?_, fun k d2 h2 => ?_⟩
  · obtain ⟨d, h⟩ := hE k hk
    exact upd_other _ _ (ne k d h)
  · rw [upd_other _ _ (ne k d2 h2)]; exact h2
  · rw [upd_other _ _ (ne k d2 h2)]; exact ⟨d2, h2⟩
end
section
variable {σ τ : St} {lo hi rlo h b : Nat} {up E G C LC : List Nat} {d : Pd}
theorem Spine.top_mem (hs : Spine σ lo hi rlo h b up C LC) : up ≠ [] → top b up ∈ C := by
  induction hs with
  | root h b => exact fun e => absurd rfl e
  | @step h b q d pre post up C LC h1 h2 h3 h4 h5 h6 _ ih =>
    intro _
    by_cases e : up = []
    · subst e; simp [top]
    · simp only [top]
      exact List.mem_cons_of_mem _ (List.mem_append_right _ (ih e))
/-- What is known of a node on the way up. -/
theorem Up.at (hu : Up σ lo hi rlo h b up E G) (hd : σ b = some d) : d.lvl = (h : Int) ∧ d.kids.length ≤ hi + 1 ∧ (∀ k ∈ d.kids, k ≠ b ∧ ∃ e, σ k = some e ∧ may4 e.r) ∧ d.kids.Nodup ∧ b ∉ E ∧ E.Nodup ∧ (up ≠ [] → top b up ≠ b ∧ top b up ∉ E) ∧ (up ≠ [] → lo ≤ d.kids.length) := by
  obtain ⟨C, LC, d2, hs, h1, h2, h3, h4, h5, h6, h7, h8⟩ := hu
  rw [hd] at h1
  cases h1
  have hN := h7
  rw [List.append_assoc, List.nodup_append] at h7
  obtain ⟨n1, n2, n3⟩ := h7
  rw [List.nodup_append] at n2
  have hself := kids_not_self hd n1
  refine ⟨h2, h6, fun k hk => ⟨hself k hk k (self_mem σ h k), ?_⟩, ?_, fun hb => n3 b (self_mem σ (h + 1) b) b (List.mem_append_right _ hb) rfl, n2.2.1, fun hne => ⟨fun e => ?_, fun hb => n2.2.2 _ (hs.top_mem hne) _ hb rfl⟩, h5⟩
  · obtain ⟨e, he, _⟩ := (h3 k hk).here
    have := (h3 k hk).may
    rw [rOf_some he] at this
    exact ⟨e, he, this⟩
  · rw [blks_self hd] at n1
    have n1 := (List.nodup_cons.1 n1).2
    clear h3 h4 h5 h6 h8 hN n3 hself hs h2 hd
    generalize d.kids = ks at n1
    induction ks with
    | nil => exact List.nodup_nil
    | cons a t ih =>
      rw [List.flatMap_cons, List.nodup_append] at n1
      refine List.nodup_cons.2 ⟨fun ha => ?_, ih n1.2.1⟩
      exact n1.2.2 a (self_mem σ h a) a (List.mem_flatMap.2 ⟨a, ha, self_mem σ h a⟩) rfl
  · have := n3 b (self_mem σ (h + 1) b) (top b up) (List.mem_append_left _ (hs.top_mem hne))
    exact this e.symm
/-- The node above. -/
theorem Up.above {q : Nat} (hu : Up σ lo hi rlo h b (q :: up) E G) : ∃ dq, σ q = some dq ∧ dq.lvl = (h : Int) + 1 ∧ dq.kids.length ≤ hi ∧ q ≠ b ∧ q ∉ E := by
  obtain ⟨C, LC, d2, hs, h1, h2, h3, h4, h5, h6, h7, h8⟩ := hu
  rw [List.append_assoc, List.nodup_append] at h7
  obtain ⟨n1, n2, n3⟩ := h7
  rw [List.nodup_append] at n2
  have hm := hs.head_mem
  refine ?_
  cases hs with
  | @step _ _ _ dq pre post _ C2 LC2 g1 g2 g3 g4 g5 g6 g7 =>
    exact ⟨dq, g1, by rw [g2]; omega, g5, fun e => n3 b (self_mem σ (h + 1) b) q (List.mem_append_left _ hm) e.symm, fun hq => n2.2.2 q hm q hq rfl⟩
/-- A node's rectangle may be anything on the way up. -/
theorem Up.rect (hu : Up σ lo hi rlo h b up E G) (hd : σ b = some d) (r : R4) : Up (upd σ b { d with r := r }) lo hi rlo h b up E G := by
  obtain ⟨C, LC, d2, hs, h1, h2, h3, h4, h5, h6, h7, h8⟩ := hu
  rw [hd] at h1
  cases h1
  have hN := h7
  rw [List.append_assoc, List.nodup_append] at h7
  obtain ⟨n1, n2, n3⟩ := h7
  have hself := kids_not_self hd n1
  have ag : ∀ k ∈ d.kids, ∀ j ∈ Rt.blks σ h k, upd σ b { d with r := r } j = σ j := fun k hk j hj => upd_other _ _ (hself k hk j hj)
  have hC : ∀ k ∈ C, upd σ b { d with r := r } k = σ k := fun k hk => upd_other _ _ (fun e => n3 b (self_mem σ (h + 1) b) k (List.mem_append_left _ hk) e.symm)
  have eb := blks_mk (τ := upd σ b { d with r := r }) (d := { d with r := r }) (upd_same _ _ _) ag
  have el := lvs_mk (τ := upd σ b { d with r := r }) (d := { d with r := r }) (upd_same _ _ _) ag
  refine ⟨C, LC, _, hs.agree hC, upd_same _ _ _, h2, fun k hk => (h3 k hk).agree (ag k hk), h4, h5, h6, ?_, ?_⟩
  · rw [eb, ← blks_self hd]; exact hN
  · rw [el, ← lvs_self hd]; exact h8
end
theorem flat_blks {σ τ : St} {f : Nat} {A : List Nat} (h : ∀ k ∈ A.flatMap (blks σ f), τ k = σ k) : A.flatMap (blks τ f) = A.flatMap (blks σ f) ∧ A.flatMap (lvs τ f) = A.flatMap (lvs σ f) :=
  ⟨flat_congr fun k hk => blks_agree f k fun j hj => h j (List.mem_flatMap.2 ⟨k, hk, hj⟩), flat_congr fun k hk => lvs_agree f k fun j hj => h j (List.mem_flatMap.2 ⟨k, hk, hj⟩)⟩
end Go.Proofs.YtobkgamcjfjghaaGreat.Rt
namespace Go.Proofs.YtobkgamcjfjghaaGreat.Rt
open Go.RowKit Go.Proofs.YtobkgamcjfjghaaGreat.Pt Go.Proofs.YtobkgamcjfjghaaGreat.Rc Go.Proofs.YtobkgamcjfjghaaGreat.Rs
set_option linter.unusedVariables false
set_option linter.unusedSimpArgs false
theorem own_same {W V : World} {base k n : Nat} {t : TypeId} {v : Value} {xs : List Value} (h : W.ownsRow base t k v n xs) (hb : ∀ g, v.ownBlock = some g → V.heap[g]? = W.heap[g]?) : V.ownsRow base t k v n xs := by
  refine ⟨h.1, ?_⟩
  rcases h.2 with ⟨e, e2⟩ | ⟨g, c, cur, rfl, k1, k2, k3⟩
  · exact Or.inl ⟨e, e2⟩
  · exact Or.inr ⟨g, c, cur, rfl, k1, (hb g rfl).trans k2, k3⟩
theorem own_up {W : World} {base z k n : Nat} {t : TypeId} {v : Value} {xs : List Value} (h : W.ownsRow base t k v n xs) (hb : ∀ g, v.ownBlock = some g → z ≤ g) : W.ownsRow z t k v n xs := by
  refine ⟨h.1, ?_⟩
  rcases h.2 with ⟨e, e2⟩ | ⟨g, c, cur, rfl, k1, k2, k3⟩
  · exact Or.inl ⟨e, e2⟩
  · exact Or.inr ⟨g, c, cur, rfl, hb g rfl, k2, k3⟩
theorem upd_eq {σ : St} {n : Nat} {d : Pd} (h : σ n = some d) : upd σ n d = σ := by
  funext k
  unfold upd
  split
  · rename_i e; rw [e, h]
  · rfl
/-- How many a node has: at least, and what is taken out. -/
theorem least_two {o : Nat} (h1 : 4 ≤ o) (h2 : o ≤ 16) : 2 ≤ leastN o ∧ 2 * leastN o ≤ o + 1 ∧ 1 ≤ manyN o ∧ leastN o + manyN o ≤ o + 1 ∧ leastN o ≤ o ∧ o / 4 + 1 ≤ leastN o := by
  unfold leastN manyN
  omega
/-- What is carried along the way up: P the way, A what was taken out, E what lies outside besides. -/
structure Com (o t mb hx f H : Nat) (P E G0 : List Nat) (gp : Nat) (w0 : World) (σ0 : St) (V0 : Nat → Value) (j : Nat) (v7 : Value) (wr : World) (σ : St) (V : Nat → Value) (A G : List Nat) (rt : Nat) : Prop where
  le : j ≤ P.length
  tlt : t < w0.heap.size
  stp : Stp t w0 σ0 V0 wr σ V
  tree : TAt wr t o mb rt
  kps : Kps σ0 σ E
  known : ∀ k ∈ E, ∃ d, σ0 k = some d
  row : wr.ownsRow w0.heap.size 61 1 v7 A.length (A.map ptr)
  apart : ∀ g, v7.ownBlock = some g → ¬ Foot σ V g
  path : ∀ (i : Nat) (hi : i < P.length), wr.cell? ⟨gp, i, none⟩ = some (ptr P[i])
  pgt : w0.heap.size ≤ gp ∧ gp < wr.heap.size ∧ ¬ Foot σ V gp
  shed : A = [] ∨ (A.length = manyN o ∧ f < hx + j ∧ f < H)
  nd : ∀ k ∈ A, Nd σ (leastN o) o f k
  perm : (A.flatMap (lvs σ f) ++ G).Perm G0
theorem Stp.new {t b : Nat} {w a c : World} {σ σ1 : St} {V V1 : Nat → Value} {d : Pd} {s : Value} (h : Stp t w σ V a σ1 V1) (hn : w.heap.size ≤ b) (hs : ∀ k, s.ownBlock = some k → w.heap.size ≤ k) (hM : Mem c (upd σ1 b d) (updV V1 b s)) (hb : Below a.heap.size a c) : Stp t w σ V c (upd σ1 b d) (updV V1 b s) := by
  refine ⟨hM, fun k hk' => ?_, h.ke.below hb⟩
  rcases foot_upd hk' with rfl | h' | h'
  · exact Or.inr hn
  · exact Or.inr (hs k h')
  · exact h.foot k h'
section
variable {rl o t mb hx f root H : Nat} {P E G0 : List Nat} {gp : Nat} {w0 : World} {σ0 : St} {V0 : Nat → Value} {j : Nat} {v7 : Value} {wr w1 : World} {σ τ : St} {V V1 : Nat → Value} {A G : List Nat} {rt rt1 : Nat}
theorem Com.out (c : Com o t mb hx f H P E G0 gp w0 σ0 V0 j v7 wr σ V A G rt) : ∀ k ∈ A.flatMap (blks σ f) ++ E, ∃ d, σ k = some d := by
  intro k hk
  rcases List.mem_append.1 hk with hk | hk
  · obtain ⟨a, ha, hk⟩ := List.mem_flatMap.1 hk
    exact (c.nd a ha).known k hk
  · obtain ⟨d, hd⟩ := c.known k hk
    exact c.kps.part k d hd
/-- A step that leaves what lies outside. -/
theorem Com.step (c : Com o t mb hx f H P E G0 gp w0 σ0 V0 j v7 wr σ V A G rt) (s : Stp t wr σ V w1 τ V1) (k : Kps σ τ (A.flatMap (blks σ f) ++ E)) (ht : TAt w1 t o mb rt1) {j1 : Nat} (h1 : j ≤ j1) (h2 : j1 ≤ P.length) :
    Com o t mb hx f H P E G0 gp w0 σ0 V0 j1 v7 w1 τ V1 A G rt1 ∧ A.flatMap (blks τ f) = A.flatMap (blks σ f) := by
  have hA : ∀ x ∈ A.flatMap (blks σ f), τ x = σ x := fun x hx => k.out x (List.mem_append_left _ hx)
  obtain ⟨e1, e2⟩ := flat_blks hA
  have hr : ∀ g, v7.ownBlock = some g → w1.heap[g]? = wr.heap[g]? ∧ ¬ Foot τ V1 g := fun g hg => by
    have := c.row.lt g hg
    exact s.out this.2 (c.apart g hg) (by have := c.tlt; omega)
  have hp := s.out c.pgt.2.1 c.pgt.2.2 (by have := c.tlt; have := c.pgt.1; omega)
  refine ⟨⟨h2, c.tlt, c.stp.trans s, ht, c.kps.trans (k.sub fun x hx => List.mem_append_right _ hx), c.known, own_same c.row fun g hg => (hr g hg).1, fun g hg => (hr g hg).2, fun i hi => ?_, ⟨c.pgt.1, Nat.lt_of_lt_of_le c.pgt.2.1 s.ke.size, hp.2⟩, ?_, fun x hx => (c.nd x hx).agree fun y hy => hA y (List.mem_flatMap.2 ⟨x, hx, hy⟩), ?_⟩, e1⟩
  · exact (World.cell?_of_block (w := wr) (w' := w1) (a := ⟨gp, i, none⟩) hp.1).trans (c.path i hi)
  · rcases c.shed with h | ⟨h, h', h''⟩
    · exact Or.inl h
    · exact Or.inr ⟨h, by omega, h''⟩
  · rw [e2]; exact c.perm
/-- Where it is on the way up: at node j, or through. -/
def Nx (rl o t mb hx f root H : Nat) (P E G0 : List Nat) (gp : Nat) (w0 : World) (σ0 : St) (V0 : Nat → Value) (j : Nat) (v7 : Value) (wr : World) : Prop :=
  ∃ (σ : St) (V : Nat → Value) (A G : List Nat) (rt : Nat), Com o t mb hx f H P E G0 gp w0 σ0 V0 j v7 wr σ V A G rt ∧
    ((∃ hj : j < P.length, rt = root ∧ Up σ (leastN o) o rl (hx + j) P[j] (P.drop (j + 1)) (A.flatMap (blks σ f) ++ E) G ∧ top P[j] (P.drop (j + 1)) = root) ∨
     (j = P.length ∧ ∃ H', H ≤ H' ∧ Tree σ (leastN o) o rl H' rt (A.flatMap (blks σ f) ++ E) G))
theorem drop_cases (hj : j < P.length) : (P.drop (j + 1) = [] ∧ j + 1 = P.length) ∨ ∃ hj1 : j + 1 < P.length, P.drop (j + 1) = P[j + 1] :: P.drop (j + 1 + 1) := by
  by_cases h : j + 1 < P.length
  · exact Or.inr ⟨h, List.drop_eq_getElem_cons h⟩
  · exact Or.inl ⟨List.drop_eq_nil_of_le (by omega), by omega⟩
/-- The node, fit. -/
theorem Com.fit {n : Nat} {d : Pd} (c : Com o t mb hx f H P E G0 gp w0 σ0 V0 j v7 wr σ V A G rt) (hj : j < P.length) (hu : Up σ (leastN o) o rl (hx + j) n (P.drop (j + 1)) (A.flatMap (blks σ f) ++ E) G) (hd : σ n = some d)
    (hp : PAt w1 n { d with r := hull σ d.kids } (V n)) (hk : Ke (fun k => k = n) wr w1) :
    Com o t mb hx f H P E G0 gp w0 σ0 V0 j v7 w1 (upd σ n { d with r := hull σ d.kids }) V A G rt ∧ Up (upd σ n { d with r := hull σ d.kids }) (leastN o) o rl (hx + j) n (P.drop (j + 1)) (A.flatMap (blks (upd σ n { d with r := hull σ d.kids }) f) ++ E) G ∧
      hull (upd σ n { d with r := hull σ d.kids }) d.kids = hull σ d.kids := by
  obtain ⟨a1, a2, a3, a4, a5, a6, a7, a8⟩ := hu.at hd
  have s := Stp.of_fit (t := t) c.stp.mem hd hp hk
  have ht : t ≠ n := fun e => c.tree.foot c.stp.mem (Or.inl ⟨d, by rw [e]; exact hd⟩)
  obtain ⟨c2, e⟩ := c.step s (Kps.upd hd (by rw [a1]; omega) a5) (c.tree.keep hk ht) (Nat.le_refl _) c.le
  refine ⟨c2, ?_, hull_upd fun k hk => (a3 k hk).1⟩
  rw [e]
  exact hu.rect hd _
/-- Few enough. -/
theorem Com.few {n : Nat} {d : Pd} (c : Com o t mb hx f H P E G0 gp w0 σ0 V0 j v7 wr σ V A G root) (h1 : 4 ≤ o) (h2 : o ≤ 16) (hrl : rl ≤ 2) (hH : H + 1 = hx + P.length) (hj : j < P.length) (hu : Up σ (leastN o) o rl (hx + j) n (P.drop (j + 1)) (A.flatMap (blks σ f) ++ E) G) (hn : n = P[j]) (htop : top n (P.drop (j + 1)) = root) (hd : σ n = some d) (hr : d.r = hull σ d.kids) (hl : d.kids.length ≤ o) :
    Nx rl o t mb hx f root H P E G0 gp w0 σ0 V0 (j + 1) v7 wr := by
  have c2 := (c.step (Stp.refl t c.stp.mem) (Kps.refl _ _) c.tree (Nat.le_succ j) hj).1
  have e : upd σ n { d with r := hull σ d.kids } = σ := by rw [← hr]; exact upd_eq hd
  refine ⟨σ, V, A, G, root, c2, ?_⟩
  rcases drop_cases hj with ⟨e1, e2⟩ | ⟨hj1, e1⟩
  · rw [e1] at hu htop
    have h3 := hu.root hd hl
    rw [e] at h3
    have : n = root := htop
    subst this
    exact Or.inr ⟨e2, hx + j, by omega, h3⟩
  · rw [e1] at hu htop
    have h3 := hu.fit hd hl (Nat.le_trans hrl (least_two h1 h2).1)
    rw [e] at h3
    exact Or.inl ⟨hj1, rfl, h3, htop⟩
/-- The root, split. -/
theorem Com.newroot {n oo tt : Nat} {d : Pd} {S L : List Nat} {s1 s2 s3 : Value} {w2 w3 : World} {V2 : Nat → Value} (c : Com o t mb hx f H P E G0 gp w0 σ0 V0 j v7 wr σ V A G root) (h1 : 4 ≤ o) (h2 : o ≤ 16) (hrl : rl ≤ 2) (hH : H + 1 = hx + P.length) (hj : j + 1 = P.length) (hu : Up σ (leastN o) o rl (hx + j) n [] (A.flatMap (blks σ f) ++ E) G) (hd : σ n = some d)
    (ho : wr.heap.size ≤ oo) (hon : σ oo = none) (hp : (S ++ L).Perm d.kids) (hS : leastN o ≤ S.length) (hL : leastN o ≤ L.length) (b1 : ∀ k, s1.ownBlock = some k → wr.heap.size ≤ k) (b2 : ∀ k, s2.ownBlock = some k → wr.heap.size ≤ k)
    (hM2 : Mem w2 (upd (upd σ oo ⟨d.lvl, hull σ L, 0, L⟩) n { d with r := hull σ S, kids := S }) V2) (eV : V2 = updV (updV V oo s1) n s2) (hk : Ke (fun k => k = n) wr w2)
    {w2' : World} (hw2 : Below w2.heap.size w2 w2') (ht : w2'.heap.size ≤ tt) (htn : (upd (upd σ oo ⟨d.lvl, hull σ L, 0, L⟩) n { d with r := hull σ S, kids := S }) tt = none) (b3 : ∀ k, s3.ownBlock = some k → w2.heap.size ≤ k)
    (hM3 : Mem w3 (upd (upd (upd σ oo ⟨d.lvl, hull σ L, 0, L⟩) n { d with r := hull σ S, kids := S }) tt ⟨d.lvl + 1, hull (upd (upd σ oo ⟨d.lvl, hull σ L, 0, L⟩) n { d with r := hull σ S, kids := S }) [n, oo], 0, [n, oo]⟩) (updV V2 tt s3)) (hb3 : Below w2'.heap.size w2' w3) :
    Nx rl o t mb hx f root H P E G0 gp w0 σ0 V0 (j + 1) v7 (w3.setCell ⟨t, 2, none⟩ (ptr tt)) := by
  subst eV
  obtain ⟨a1, a2, a3, a4, a5, a6, a7, a8⟩ := hu.at hd
  have hne : n ≠ oo := fun e => by rw [e, hon] at hd; cases hd
  have htt : tt ≠ n ∧ tt ≠ oo := by
    refine ⟨fun e => ?_, fun e => ?_⟩
    · rw [e, upd_same] at htn; cases htn
    · rw [e, upd_other _ _ (Ne.symm hne), upd_same] at htn; cases htn
  have hts : σ tt = none := by rw [upd_other _ _ htt.1, upd_other _ _ htt.2] at htn; exact htn
  have hE := c.out
  have hoE : oo ∉ A.flatMap (blks σ f) ++ E := fun h => by obtain ⟨x, hx⟩ := hE oo h; rw [hon] at hx; cases hx
  have htE : tt ∉ A.flatMap (blks σ f) ++ E := fun h => by obtain ⟨x, hx⟩ := hE tt h; rw [hts] at hx; cases hx
  have k1 : Kps σ (upd σ oo ⟨d.lvl, hull σ L, 0, L⟩) (A.flatMap (blks σ f) ++ E) := Kps.new hon hE
  have hd1 : upd σ oo ⟨d.lvl, hull σ L, 0, L⟩ n = some d := by rw [upd_other _ _ hne]; exact hd
  have k2 := k1.trans (Kps.upd (d' := { d with r := hull σ S, kids := S }) hd1 (by rw [a1]; omega) a5)
  have k3 := k2.trans (Kps.new (d' := ⟨d.lvl + 1, hull (upd (upd σ oo ⟨d.lvl, hull σ L, 0, L⟩) n { d with r := hull σ S, kids := S }) [n, oo], 0, [n, oo]⟩) htn (fun k hk => by obtain ⟨x, hx⟩ := hE k hk; exact k2.part k x hx))
  have t1 : Stp t wr σ V w2' _ _ := (Stp.of_split hd ho b1 b2 hM2 hk).below hw2
  have t2 := t1.new (Nat.le_trans t1.ke.size ht) (fun k h => Nat.le_trans hk.size (b3 k h)) hM3 hb3
  have htf : ¬ Foot σ V t := c.tree.foot c.stp.mem
  have htf3 := fun h => (t2.foot t h).elim htf (fun h => by have := c.tree.lt; omega)
  have hnt : t ≠ n := fun e => htf (Or.inl ⟨d, by rw [e]; exact hd⟩)
  have tr2 : TAt w2' t o mb root := (c.tree.keep hk hnt).later hw2
  have tr3 : TAt w3 t o mb root := tr2.later hb3
  have tr4 : TAt (w3.setCell ⟨t, 2, none⟩ (ptr tt)) t o mb tt := by
    have := set_obj tr3 2 (ptr tt)
    unfold TAt
    rw [this]
    simp
  have t4 := t2.trans (Stp.of_tree t2.mem htf3 2 (ptr tt))
  obtain ⟨c4, e4⟩ := c.step t4 k3 tr4 (Nat.le_succ j) (by omega)
  refine ⟨_, _, A, G, tt, c4, Or.inr ⟨hj, hx + j + 1, by omega, ?_⟩⟩
  rw [e4]
  refine hu.grow hd hon hts (Ne.symm htt.2) hoE htE hp hS hL (by have := (least_two h1 h2).1; omega) hrl (by omega) (io := 0) (it := 0) ?_ ?_ ?_ ?_
  · rw [upd_other _ _ (Ne.symm htt.1), upd_same]
  · rw [upd_other _ _ (Ne.symm htt.2), upd_other _ _ (Ne.symm hne), upd_same]
  · have hh : ∀ (ρ : St) (x : Pd), hull (upd ρ tt x) [n, oo] = hull ρ [n, oo] := fun ρ x => hull_upd fun k hk => by
      simp only [List.mem_cons, List.not_mem_nil, or_false] at hk
      rcases hk with rfl | rfl
      · exact Ne.symm htt.1
      · exact Ne.symm htt.2
    rw [upd_same, hh]
  · intro k e1 e2 e3
    rw [upd_other _ _ e3, upd_other _ _ e1, upd_other _ _ e2]
/-- Some are taken out. -/
theorem Com.lose {n g : Nat} {d : Pd} {F : List Nat} {s : Value} {w2 : World} (c : Com o t mb hx f H P E G0 gp w0 σ0 V0 j v7 wr σ V A G root) (h1 : 4 ≤ o) (h2 : o ≤ 16) (hrl : rl ≤ 2) (hH : H + 1 = hx + P.length) (hj : j < P.length) (hj1 : j + 1 < P.length) (hu : Up σ (leastN o) o rl (hx + j) n (P.drop (j + 1)) (A.flatMap (blks σ f) ++ E) G) (hn : n = P[j]) (htop : top n (P.drop (j + 1)) = root) (hd : σ n = some d) (hf : hx + j = f) (hl : o < d.kids.length)
    (hF : F.length = manyN o) (hFn : F.Nodup) (hFk : ∀ k ∈ F, k ∈ d.kids) (hg : wr.heap.size ≤ g) (hrow : w2.ownsRow 0 61 1 (.slice (some ⟨g, 0, none⟩) (manyN o) (manyN o)) (manyN o) (F.map ptr)) (hs : s.ownBlock = (V n).ownBlock)
    (hM2 : Mem w2 (fitK σ n d (d.kids.filter fun k => !(F.contains k))) (updV V n s)) (hk : Ke (fun k => k = n ∨ (V n).ownBlock = some k) wr w2) :
    Nx rl o t mb hx f root H P E G0 gp w0 σ0 V0 (j + 1) (.slice (some ⟨g, 0, none⟩) (manyN o) (manyN o)) w2 := by
  obtain ⟨a1, a2, a3, a4, a5, a6, a7, a8⟩ := hu.at hd
  have hA : A = [] := by rcases c.shed with h | ⟨_, h, _⟩; exact h; omega
  subst hA
  have lt := least_two h1 h2
  have hp := part_perm a4 hFn hFk
  have hlen : (d.kids.filter fun k => !(F.contains k)).length + manyN o = d.kids.length := by
    rw [← hp.length_eq, List.length_append, hF]
  rcases drop_cases hj with ⟨e1, e2⟩ | ⟨hj1, e1⟩
  · omega
  rw [e1] at hu htop
  simp only [List.flatMap_nil, List.nil_append] at hu a5
  have tb : fitK σ n d (d.kids.filter fun k => !(F.contains k)) n = some { d with r := hull σ (d.kids.filter fun k => !(F.contains k)), kids := d.kids.filter fun k => !(F.contains k) } := upd_same _ _ _
  obtain ⟨G2, u2, p2, n2⟩ := hu.shed hd hp (by omega) (by omega) (Nat.le_trans hrl lt.1) tb (fun k hk => upd_other _ _ hk)
  have st : Stp t wr σ V w2 (fitK σ n d (d.kids.filter fun k => !(F.contains k))) (updV V n s) := Stp.of_put c.stp.mem hd hM2 hk (fun k h => Or.inl (by rw [← hs]; exact h))
  have kp : Kps σ (fitK σ n d (d.kids.filter fun k => !(F.contains k))) E := Kps.upd hd (by rw [a1]; omega) a5
  have htf : ¬ Foot σ V t := c.tree.foot c.stp.mem
  have hnt : ¬ (t = n ∨ (V n).ownBlock = some t) := fun h => htf (h.elim (fun e => Or.inl ⟨d, by rw [e]; exact hd⟩) (fun h => Or.inr ⟨n, d, hd, h⟩))
  have op := st.out c.pgt.2.1 c.pgt.2.2 (by have := c.tlt; have := c.pgt.1; omega)
  refine ⟨_, _, F, G2, root, ⟨by omega, c.tlt, c.stp.trans st, c.tree.keep hk hnt, c.kps.trans kp, c.known, ?_, fun g' hg' hft => ?_, fun i hi => ?_, ⟨c.pgt.1, Nat.lt_of_lt_of_le c.pgt.2.1 st.ke.size, op.2⟩, Or.inr ⟨hF, by omega, by omega⟩, ?_, ?_⟩, Or.inl ⟨hj1, rfl, ?_, htop⟩⟩
  · rw [hF]
    exact own_up hrow fun g' hg' => by
      simp [Value.ownBlock] at hg'
      have := c.stp.ke.size
      omega
  · simp [Value.ownBlock] at hg'
    subst hg'
    rcases foot_upd hft with h | h | h
    · have := (c.stp.mem.part n d hd).lt; omega
    · have := c.stp.mem.foot_lt (Or.inr ⟨n, d, hd, by rw [← hs]; exact h⟩); omega
    · have := c.stp.mem.foot_lt h; omega
  · exact (World.cell?_of_block (w := wr) (w' := w2) (a := ⟨gp, i, none⟩) op.1).trans (c.path i hi)
  · rw [← hf]; exact n2
  · rw [← hf]
    refine p2.trans ?_
    have := c.perm
    simpa using this
  · rw [← hf]; exact u2
/-- Split, below the root. -/
theorem Com.split {n oo q : Nat} {d dq : Pd} {S L : List Nat} {s1 s2 s3 : Value} {w2 w3 w4 : World} {V2 : Nat → Value} (c : Com o t mb hx f H P E G0 gp w0 σ0 V0 j v7 wr σ V A G root) (h1 : 4 ≤ o) (h2 : o ≤ 16) (hrl : rl ≤ 2) (hj : j < P.length) (hj1 : j + 1 < P.length) (hu : Up σ (leastN o) o rl (hx + j) n (P.drop (j + 1)) (A.flatMap (blks σ f) ++ E) G) (hn : n = P[j]) (hq : q = P[j + 1]) (htop : top n (P.drop (j + 1)) = root) (hd : σ n = some d)
    (ho : wr.heap.size ≤ oo) (hon : σ oo = none) (hp : (S ++ L).Perm d.kids) (hS : leastN o ≤ S.length) (hL : leastN o ≤ L.length) (b1 : ∀ k, s1.ownBlock = some k → wr.heap.size ≤ k) (b2 : ∀ k, s2.ownBlock = some k → wr.heap.size ≤ k)
    (hM2 : Mem w2 (upd (upd σ oo ⟨d.lvl, hull σ L, 0, L⟩) n { d with r := hull σ S, kids := S }) V2) (eV : V2 = updV (updV V oo s1) n s2) (hk : Ke (fun k => k = n) wr w2)
    (hw3 : Below w2.heap.size w2 w3) (hdq : (upd (upd σ oo ⟨d.lvl, hull σ L, 0, L⟩) n { d with r := hull σ S, kids := S }) q = some dq) (hg : w3.grownBy w4 (V2 q).ownBlock) (hr : w4.ownsRow 0 61 1 s3 (dq.kids ++ [oo]).length ((dq.kids ++ [oo]).map ptr)) (hs : ∀ k, s3.ownBlock = some k → (V2 q).ownBlock = some k ∨ k = w3.heap.size) :
    Nx rl o t mb hx f root H P E G0 gp w0 σ0 V0 (j + 1) v7 (w4.setCell ⟨q, 6, none⟩ s3) := by
  subst eV
  obtain ⟨a1, a2, a3, a4, a5, a6, a7, a8⟩ := hu.at hd
  rcases drop_cases hj with ⟨e1, e2⟩ | ⟨hj1', e1⟩
  · omega
  rw [e1] at hu htop
  rw [← hq] at hu htop
  obtain ⟨dq', g1, g2, g3, g4, g5⟩ := hu.above
  have hne : n ≠ oo := fun e => by rw [e, hon] at hd; cases hd
  have hqo : q ≠ oo := fun e => by rw [e, hon] at g1; cases g1
  have hdq2 : dq' = dq := by
    rw [upd_other _ _ g4, upd_other _ _ hqo, g1] at hdq
    exact Option.some.inj hdq
  subst hdq2
  have hE := c.out
  have hoE : oo ∉ A.flatMap (blks σ f) ++ E := fun h => by obtain ⟨x, hx⟩ := hE oo h; rw [hon] at hx; cases hx
  have k1 : Kps σ (upd σ oo ⟨d.lvl, hull σ L, 0, L⟩) (A.flatMap (blks σ f) ++ E) := Kps.new hon hE
  have hd1 : upd σ oo ⟨d.lvl, hull σ L, 0, L⟩ n = some d := by rw [upd_other _ _ hne]; exact hd
  have k2 := k1.trans (Kps.upd (d' := { d with r := hull σ S, kids := S }) hd1 (by rw [a1]; omega) a5)
  have k3 := k2.trans (Kps.upd (d' := { dq' with kids := dq'.kids ++ [oo] }) hdq (by rw [g2]; omega) g5)
  have t1 : Stp t wr σ V w3 _ _ := (Stp.of_split hd ho b1 b2 hM2 hk).below hw3
  obtain ⟨m4, x4⟩ := mem_more t1.mem hdq hg hr hs
  have t4 := t1.trans (Stp.of_put (t := t) t1.mem hdq m4 x4 (fun k h => (hs k h).imp id (fun e => by omega)))
  have htf : ¬ Foot σ V t := c.tree.foot c.stp.mem
  have hnt : t ≠ n := fun e => htf (Or.inl ⟨d, by rw [e]; exact hd⟩)
  have tr3 : TAt w3 t o mb root := (c.tree.keep hk hnt).later hw3
  have htf3 := tr3.foot t1.mem
  have tr4 : TAt (w4.setCell ⟨q, 6, none⟩ s3) t o mb root := tr3.keep x4 (fun h => htf3 (h.elim (fun e => Or.inl ⟨dq', by rw [e]; exact hdq⟩) (fun h => Or.inr ⟨q, dq', hdq, h⟩)))
  obtain ⟨c4, e4⟩ := c.step t4 k3 tr4 (Nat.le_succ j) (by omega)
  refine ⟨_, _, A, G, root, c4, Or.inl ⟨hj1', rfl, ?_, by rw [← hq]; exact htop⟩⟩
  rw [e4, ← hq]
  refine hu.split hd g1 hon hoE hp hS hL (by have := (least_two h1 h2).1; omega) (Nat.le_trans hrl (least_two h1 h2).1) (io := 0) ?_ ?_ (upd_same _ _ _) (fun k e1 e2 e3 => by rw [upd_other _ _ e3, upd_other _ _ e1, upd_other _ _ e2])
  · rw [upd_other _ _ (Ne.symm g4), upd_same]
  · rw [upd_other _ _ (Ne.symm hqo), upd_other _ _ (Ne.symm hne), upd_same]
theorem Up.top_known {lo hi rlo h b : Nat} {up E G : List Nat} (hu : Up σ lo hi rlo h b up E G) : ∃ d, σ (top b up) = some d := by
  obtain ⟨C, LC, d, hs, h1, _⟩ := hu
  by_cases e : up = []
  · subst e; exact ⟨d, h1⟩
  · exact hs.known _ (hs.top_mem e)
/-- The part is laid into the first node. -/
theorem Nx.start {w W W1 : World} {x b : Nat} {up : List Nat} {d : Pd} {s : Value} {G : List Nat} (hM : Mem w σ V) (hT : TAt w t o mb root) (hE : ∀ k ∈ E, ∃ d, σ k = some d) (hu : Up σ (leastN o) o rl hx b up (blks σ hx x ++ E) G) (htop : top b up = root) (hd : σ b = some d) (hl : d.kids.length ≤ o) (hnx : Nd σ (leastN o) o hx x)
    (hb : Below w.heap.size w W) (h1 : w.heap.size ≤ gp) (h2 : gp < W.heap.size) (hpath : ∀ (i : Nat) (hi : i < (b :: up).length), W.cell? ⟨gp, i, none⟩ = some (ptr (b :: up)[i]))
    (hg : W.grownBy W1 (V b).ownBlock) (hr : W1.ownsRow 0 61 1 s (d.kids ++ [x]).length ((d.kids ++ [x]).map ptr)) (hs : ∀ k, s.ownBlock = some k → (V b).ownBlock = some k ∨ k = W.heap.size) :
    Nx rl o t mb hx f root H (b :: up) E (lvs σ hx x ++ G) gp w σ V 0 (.slice none 0 0) (W1.setCell ⟨b, 6, none⟩ s) := by
  obtain ⟨a1, a2, a3, a4, a5, a6, a7, a8⟩ := hu.at hd
  have t1 : Stp t w σ V W σ V := (Stp.refl t hM).below hb
  obtain ⟨m4, x4⟩ := mem_more t1.mem hd hg hr hs
  have t2 : Stp t W σ V _ _ _ := Stp.of_put (t := t) t1.mem hd m4 x4 (fun k h => (hs k h).imp id (fun e => by omega))
  have t4 := t1.trans t2
  have hgf : ¬ Foot σ V gp := fun h => by have := hM.foot_lt h; omega
  have htf : ¬ Foot σ V t := hT.foot hM
  have op := t2.out h2 hgf (by have := hT.lt; omega)
  have tr4 : TAt (W1.setCell ⟨b, 6, none⟩ s) t o mb root := (hT.later hb).keep x4 (fun h => htf (h.elim (fun e => Or.inl ⟨d, by rw [e]; exact hd⟩) (fun h => Or.inr ⟨b, d, hd, h⟩)))
  refine ⟨_, _, [], lvs σ hx x ++ G, root, ⟨Nat.zero_le _, hT.lt, t4, tr4, Kps.upd hd (by rw [a1]; omega) (fun h => a5 (List.mem_append_right _ h)), hE, World.ownsRow_nil _ _ _ _, fun g hg => by simp [Value.ownBlock] at hg, fun i hi => ?_, ⟨h1, Nat.lt_of_lt_of_le h2 t2.ke.size, op.2⟩, Or.inl rfl, fun k hk => by simp at hk, by simp⟩, Or.inl ⟨by simp, rfl, ?_, htop⟩⟩
  · exact (World.cell?_of_block (w := W) (w' := _) (a := ⟨gp, i, none⟩) op.1).trans (hpath i hi)
  · have := hu.add hd hl hnx (upd_same _ _ _) (fun k hk => upd_other σ { d with kids := d.kids ++ [x] } hk)
    simpa using this
end
end Go.Proofs.YtobkgamcjfjghaaGreat.Rt
