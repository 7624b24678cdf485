/-
  Tree.remove's relations: what holds at each round's head, and how it goes on. No walk here.
-/
import Derived.Test.YtobkgamcjfjghaaGreatMp15
/-
  What holds on the way up of remove, and what each of its steps comes to. No function of the program here.
-/
namespace Go.Proofs.YtobkgamcjfjghaaGreat.Rt
open Go.RowKit Go.Proofs.YtobkgamcjfjghaaGreat.Pt Go.Proofs.YtobkgamcjfjghaaGreat.Rc Go.Proofs.YtobkgamcjfjghaaGreat.Rs
set_option linter.unusedVariables false
set_option linter.unusedSimpArgs false
section
variable {σ τ : St} {lo hi rlo h b l : Nat} {up E E' G : List Nat} {d : Pd}
theorem Lose.perm (hz : Lose σ lo hi rlo h b l up E G) (hp : E.Perm E') : Lose σ lo hi rlo h b l up E' G := by
  obtain ⟨C, LC, d, pre, post, h1, h2, h3, h4, h5, h6, h7, h8, h9, h10, h11⟩ := hz
  exact ⟨C, LC, d, pre, post, h1, h2, h3, h4, h5, h6, h7, h8, h9, ((List.Perm.append_left _ hp).nodup_iff).1 h10, h11⟩
theorem Tree.weak {rl : Nat} (ht : Tree σ lo hi rlo h b E G) (hr : rl ≤ rlo) : Tree σ lo hi rl h b E G := by
  obtain ⟨d, h1, h2, h3, h4, h5, h6, h7, h8⟩ := ht
  exact ⟨d, h1, h2, h3, fun e => Nat.le_trans hr (h4 e), h5, h6, h7, h8⟩
theorem Tree.few (ht : Tree σ lo hi rlo h b (E ++ E') G) : Tree σ lo hi rlo h b E G := by
  obtain ⟨d, h1, h2, h3, h4, h5, h6, h7, h8⟩ := ht
  rw [← List.append_assoc] at h7
  exact ⟨d, h1, h2, h3, h4, h5, h6, (List.nodup_append.1 h7).1, h8⟩
theorem Lose.at (hz : Lose σ lo hi rlo h b l up E G) (hd : σ b = some d) (hl : ∃ e, σ l = some e) : d.lvl = (h : Int) ∧ (∀ k ∈ d.kids, k ≠ b ∧ ∃ e, σ k = some e) ∧ d.kids.length ≤ hi ∧ b ∉ E ∧ (up ≠ [] → top b up ≠ b) ∧ (up ≠ [] → lo ≤ d.kids.length) ∧ 1 ≤ d.kids.length := by
  obtain ⟨C, LC, d2, pre, post, hs, h1, h2, h3, h4, h5, h6, h7, h8, h9, h10⟩ := hz
  rw [hd] at h1
  cases h1
  rw [List.cons_append, List.nodup_cons] at h9
  refine ⟨h2, fun k hk => ?_, h7, fun hb => h9.1 (List.mem_append_right _ hb), fun hne e => ?_, h6, by rw [h3]; simp; omega⟩
  · rw [h3, List.mem_append, List.mem_cons] at hk
    have go : k ∈ pre ++ post → k ≠ b ∧ ∃ e, σ k = some e := fun hk => by
      refine ⟨fun e => h9.1 (List.mem_append_left _ (List.mem_append_left _ (List.mem_flatMap.2 ⟨k, hk, e ▸ self_mem σ h k⟩))), ?_⟩
      obtain ⟨e, he, _⟩ := (h4 k hk).here
      exact ⟨e, he⟩
    rcases hk with hk | rfl | hk
    · exact go (List.mem_append_left _ hk)
    · exact ⟨fun e => h8 (e ▸ List.mem_cons_self ..), hl⟩
    · exact go (List.mem_append_right _ hk)
  · exact h9.1 (List.mem_append_left _ (List.mem_append_right _ (e ▸ hs.top_mem hne)))
/-- A root of one kid gives way to it. -/
theorem Tree.sink {k : Nat} (ht : Tree σ lo hi rlo (h + 1) b E G) (hd : σ b = some d) (hk : d.kids = [k]) (h2 : 2 ≤ lo) : Tree σ lo hi 2 h k E G := by
  obtain ⟨d', h1, h2', h3, h4, h5, h6, h7, h8⟩ := ht
  rw [hd] at h1
  cases h1
  obtain ⟨dk, g1, g2, g3, g4, g5, g6⟩ := h3 k (by rw [hk]; simp)
  rw [blks_self hd, hk] at h7
  rw [lvs_self hd, hk] at h8
  simp only [List.flatMap_cons, List.flatMap_nil, List.append_nil, List.cons_append] at h7 h8
  exact ⟨dk, g1, g2, g6, fun _ => Nat.le_trans h2 g3, g4, g5, (List.nodup_cons.1 h7).2, h8⟩
end
/-- On the way up of remove: Ts were taken out, Dr are no part any more, l is to be lost. -/
def RmS (o h root : Nat) (P G0 : List Nat) (j : Nat) (σ : St) (Ts : List (Nat × Nat)) (Dr : List Nat) (l : Nat) : Prop :=
  ∃ G1, (lvT σ Ts ++ G1).Perm G0 ∧ (∀ p ∈ Ts, Nd σ (leastN o) o p.2 p.1 ∧ p.2 ≤ h) ∧ (∀ k ∈ Dr, ∃ d, σ k = some d) ∧ l ∈ blT σ Ts ++ Dr ∧
    ((∃ hj : j < P.length, top P[j] (P.drop (j + 1)) = root ∧ (1 ≤ h → ∃ dr, σ root = some dr ∧ 2 ≤ dr.kids.length) ∧
      (Lose σ (leastN o) o 1 j P[j] l (P.drop (j + 1)) (blT σ Ts ++ Dr) G1 ∨ (Up σ (leastN o) o 1 j P[j] (P.drop (j + 1)) (blT σ Ts ++ Dr) G1 ∧ ∀ d, σ P[j] = some d → d.kids.length ≤ o))) ∨
     (j = P.length ∧ Tree σ (leastN o) o 1 h root (blT σ Ts ++ Dr) G1))
section
variable {o h root j n l : Nat} {P G0 Dr : List Nat} {σ : St} {Ts : List (Nat × Nat)} {d : Pd}
theorem RmS.known (r : RmS o h root P G0 j σ Ts Dr l) : (∀ k ∈ blT σ Ts ++ Dr, ∃ d, σ k = some d) ∧ ∃ e, σ l = some e := by
  obtain ⟨G1, h1, h2, h3, h4, _⟩ := r
  have go : ∀ k ∈ blT σ Ts ++ Dr, ∃ d, σ k = some d := fun k hk => by
    rcases List.mem_append.1 hk with hk | hk
    · obtain ⟨p, hp, hk⟩ := List.mem_flatMap.1 hk
      exact (h2 p hp).1.known k hk
    · exact h3 k hk
  exact ⟨go, go l h4⟩
/-- What is known of the node that is at hand. -/
theorem RmS.at (r : RmS o h root P G0 j σ Ts Dr l) (hj : j < P.length) : ∃ d, σ P[j] = some d ∧ d.lvl = (j : Int) ∧ (∀ k ∈ d.kids, k ≠ P[j] ∧ ∃ e, σ k = some e) ∧ d.kids.length ≤ o ∧ P[j] ∉ blT σ Ts ++ Dr ∧ (P.drop (j + 1) ≠ [] → root ≠ P[j]) ∧ (P.drop (j + 1) = [] → root = P[j]) ∧ ∃ e, σ root = some e := by
  have hkn := r.known
  obtain ⟨G1, h1, h2, h3, h4, ⟨_, h5, h6, h7⟩ | ⟨h5, _⟩⟩ := r
  · have top : P.drop (j + 1) = [] → root = P[j] := fun e => by rw [e] at h5; exact h5.symm
    rcases h7 with hz | ⟨hu, hl⟩
    · have hd : ∃ d, σ P[j] = some d := by
        obtain ⟨C, LC, d, pre, post, hs, h1, _⟩ := hz
        exact ⟨d, h1⟩
      obtain ⟨d, hd⟩ := hd
      obtain ⟨a1, a2, a3, a4, a5, a6, a7⟩ := hz.at hd hkn.2
      refine ⟨d, hd, a1, a2, a3, a4, fun e => by rw [← h5]; exact a5 e, top, ?_⟩
      obtain ⟨C, LC, d2, pre, post, hs, _⟩ := hz
      by_cases e : P.drop (j + 1) = []
      · rw [top e]; exact ⟨d, hd⟩
      · rw [← h5]; exact hs.known _ (hs.top_mem e)
    · have hd : ∃ d, σ P[j] = some d := by
        obtain ⟨C, LC, d, hs, h1, _⟩ := hu
        exact ⟨d, h1⟩
      obtain ⟨d, hd⟩ := hd
      obtain ⟨a1, a2, a3, a4, a5, a6, a7, a8⟩ := hu.at hd
      exact ⟨d, hd, a1, fun k hk => ⟨(a3 k hk).1, by obtain ⟨e, he, _⟩ := (a3 k hk).2; exact ⟨e, he⟩⟩, hl d hd, a5, fun e => by rw [← h5]; exact (a7 e).1, top, by rw [← h5]; exact hu.top_known⟩
  · omega
/-- The node stays. -/
theorem RmS.keep (r : RmS o h root P G0 j σ Ts Dr l) (h1 : 4 ≤ o) (h2 : o ≤ 16) (hP : P.length = h + 1) (hj : j < P.length) (hd : σ P[j] = some d) (hn : P.drop (j + 1) ≠ [] → leastN o ≤ (d.kids.filter fun k => k != l).length) :
    RmS o h root P G0 (j + 1) (fitK σ P[j] d (d.kids.filter fun k => k != l)) Ts Dr l := by
  obtain ⟨d', hd', b1, b2, b3, b4, b5, b6, b7⟩ := r.at hj
  rw [hd] at hd'
  cases hd'
  have lt := least_two h1 h2
  obtain ⟨G1, p1, p2, p3, p4, ⟨_, p5, p6, p7⟩ | ⟨p5, _⟩⟩ := r
  case inr => omega
  have oth : ∀ k ∈ blT σ Ts ++ Dr, fitK σ P[j] d (d.kids.filter fun k => k != l) k = σ k := fun k hk => upd_other _ _ (fun e => b4 (e ▸ hk))
  obtain ⟨e1, e2⟩ := blT_agree (σ := σ) (τ := fitK σ P[j] d (d.kids.filter fun k => k != l)) (Ts := Ts) (fun k hk => oth k (List.mem_append_left _ hk))
  have tn : fitK σ P[j] d (d.kids.filter fun k => k != l) P[j] = some { d with r := hull σ (d.kids.filter fun k => k != l), kids := d.kids.filter fun k => k != l } := upd_same _ _ _
  have hfl : (d.kids.filter fun k => k != l).length ≤ o := Nat.le_trans (List.length_filter_le _ _) b3
  have hu : Up (fitK σ P[j] d (d.kids.filter fun k => k != l)) (leastN o) o 1 j P[j] (P.drop (j + 1)) (blT σ Ts ++ Dr) G1 := by
    rcases p7 with hz | ⟨hu, hl⟩
    · refine hz.keep hd hn (fun e hj1 => ?_)
      obtain ⟨dr, hr1, hr2⟩ := p6 (by omega)
      rw [b6 e, hd] at hr1
      cases hr1
      exact hr2
    · have hnl : d.kids.filter (fun k => k != l) = d.kids := List.filter_eq_self.2 fun k hk => by
        simp
        rintro rfl
        obtain ⟨C, LC, d2, hs, k1, k2, k3, k4, k5, k6, k7, k8⟩ := hu
        rw [hd] at k1
        cases k1
        rw [List.append_assoc] at k7
        exact (List.nodup_append.1 k7).2.2 k (kid_mem (by rw [kidsOf_some hd]; exact hk) (self_mem σ j k)) k (List.mem_append_right _ p4) rfl
      rw [hnl]
      exact hu.rect hd _
  have hh : hull (fitK σ P[j] d (d.kids.filter fun k => k != l)) (d.kids.filter fun k => k != l) = hull σ (d.kids.filter fun k => k != l) := hull_upd fun k hk => (b2 k (List.mem_filter.1 hk).1).1
  have self : upd (fitK σ P[j] d (d.kids.filter fun k => k != l)) P[j] { d with r := hull (fitK σ P[j] d (d.kids.filter fun k => k != l)) (d.kids.filter fun k => k != l), kids := d.kids.filter fun k => k != l } = fitK σ P[j] d (d.kids.filter fun k => k != l) := by
    rw [hh]
    exact upd_eq tn
  refine ⟨G1, by rw [e2]; exact p1, fun p hp => ⟨(p2 p hp).1.agree fun y hy => oth y (List.mem_append_left _ (List.mem_flatMap.2 ⟨p, hp, hy⟩)), (p2 p hp).2⟩, fun k hk => by rw [oth k (List.mem_append_right _ hk)]; exact p3 k hk, by rw [e1]; exact p4, ?_⟩
  rw [e1]
  rcases drop_cases hj with ⟨g1, g2⟩ | ⟨hj1, g1⟩
  · right
    refine ⟨g2, ?_⟩
    rw [g1] at hu
    have := hu.root tn hfl
    rw [self] at this
    rw [show h = j by omega, b6 g1]
    exact this
  · left
    have hne : P.drop (j + 1) ≠ [] := by rw [g1]; exact List.cons_ne_nil _ _
    refine ⟨hj1, ?_, fun hh1 => ?_, Or.inr ?_⟩
    · rw [g1] at p5; exact p5
    · obtain ⟨dr, hr1, hr2⟩ := p6 hh1
      exact ⟨dr, by rw [show fitK σ P[j] d (d.kids.filter fun k => k != l) root = σ root from upd_other _ _ (b5 hne)]; exact hr1, hr2⟩
    · rw [g1] at hu
      have hf := hu.fit tn hfl (by omega)
      rw [self] at hf
      obtain ⟨dq, q1, q2, q3, q4, q5⟩ := hu.above
      exact ⟨hf, fun d3 h3 => by rw [q1] at h3; cases h3; exact q3⟩
/-- The node has too few: its kids are taken out, and it is to be lost itself. -/
theorem RmS.drop (r : RmS o h root P G0 j σ Ts Dr l) (h1 : 4 ≤ o) (h2 : o ≤ 16) (hP : P.length = h + 1) (hj : j < P.length) (hj1 : j + 1 < P.length) (hd : σ P[j] = some d) (hn : (d.kids.filter fun k => k != l).length < leastN o) :
    RmS o h root P G0 (j + 1) (fitK σ P[j] d (d.kids.filter fun k => k != l)) (Ts ++ (d.kids.filter fun k => k != l).map fun k => (k, j)) (P[j] :: Dr) P[j] := by
  obtain ⟨d', hd', b1, b2, b3, b4, b5, b6, b7⟩ := r.at hj
  rw [hd] at hd'
  cases hd'
  have lt := least_two h1 h2
  have hkn := r.known
  obtain ⟨G1, p1, p2, p3, p4, ⟨_, p5, p6, p7⟩ | ⟨p5, _⟩⟩ := r
  case inr => omega
  rcases drop_cases hj with ⟨g1, g2⟩ | ⟨_, g1⟩
  · omega
  have hne : P.drop (j + 1) ≠ [] := by rw [g1]; exact List.cons_ne_nil _ _
  have oth : ∀ k ∈ blT σ Ts ++ Dr, fitK σ P[j] d (d.kids.filter fun k => k != l) k = σ k := fun k hk => upd_other _ _ (fun e => b4 (e ▸ hk))
  obtain ⟨e1, e2⟩ := blT_agree (σ := σ) (τ := fitK σ P[j] d (d.kids.filter fun k => k != l)) (Ts := Ts) (fun k hk => oth k (List.mem_append_left _ hk))
  have tn : fitK σ P[j] d (d.kids.filter fun k => k != l) P[j] = some { d with r := hull σ (d.kids.filter fun k => k != l), kids := d.kids.filter fun k => k != l } := upd_same _ _ _
  rcases p7 with hz | ⟨hu, hl⟩
  case inr =>
    exfalso
    obtain ⟨a1, a2, a3, a4, a5, a6, a7, a8⟩ := hu.at hd
    have hnl : d.kids.filter (fun k => k != l) = d.kids := List.filter_eq_self.2 fun k hk => by
      simp
      rintro rfl
      obtain ⟨C, LC, d2, hs, k1, k2, k3, k4, k5, k6, k7, k8⟩ := hu
      rw [hd] at k1
      cases k1
      rw [List.append_assoc] at k7
      exact (List.nodup_append.1 k7).2.2 k (kid_mem (by rw [kidsOf_some hd]; exact hk) (self_mem σ j k)) k (List.mem_append_right _ p4) rfl
    have := a8 hne
    rw [hnl] at hn
    omega
  rw [g1] at hz
  obtain ⟨G2, z1, z2, z3⟩ := hz.drop hd ⟨_, tn⟩ (fun k hk => show fitK σ P[j] d (d.kids.filter fun k => k != l) k = σ k from upd_other _ _ hk)
  refine ⟨G2, ?_, fun p hp => ?_, fun k hk => ?_, List.mem_append_right _ (List.mem_cons_self ..), Or.inl ⟨hj1, ?_, fun hh1 => ?_, Or.inl ?_⟩⟩
  · rw [lvT_app, lvT_map, e2]
    refine List.Perm.trans ?_ p1
    rw [List.perm_iff_count] at z2 ⊢
    intro a
    have := z2 a
    simp only [List.count_append] at this ⊢
    omega
  · rcases List.mem_append.1 hp with hp | hp
    · exact ⟨(p2 p hp).1.agree fun y hy => oth y (List.mem_append_left _ (List.mem_flatMap.2 ⟨p, hp, hy⟩)), (p2 p hp).2⟩
    · obtain ⟨k, hk, rfl⟩ := List.mem_map.1 hp
      exact ⟨z3 k hk, by show j ≤ h; omega⟩
  · rcases List.mem_cons.1 hk with rfl | hk
    · exact ⟨_, tn⟩
    · rw [oth k (List.mem_append_right _ hk)]; exact p3 k hk
  · rw [g1] at p5; exact p5
  · obtain ⟨dr, hr1, hr2⟩ := p6 hh1
    exact ⟨dr, by rw [show fitK σ P[j] d (d.kids.filter fun k => k != l) root = σ root from upd_other _ _ (b5 hne)]; exact hr1, hr2⟩
  · refine z1.perm ?_
    rw [blT_app, blT_map, e1, List.perm_iff_count]
    intro a
    simp only [List.count_append, List.count_cons]
    omega
/-- Where it begins. -/
theorem RmS.start {x : Nat} {dr : Pd} {G : List Nat} (ht : Tree σ (leastN o) o 2 h root [] G) (h1 : 4 ≤ o) (h2 : o ≤ 16) (hw : Way σ x h root P) (hl : P.length = h + 1) : ∃ G0, RmS o h root P G0 0 σ [] [x] x ∧ (x :: G0).Perm G := by
  have lt := least_two h1 h2
  obtain ⟨d, k1, k2, k3, k4, k5, k6, k7, k8⟩ := id ht
  have hr : 1 ≤ h → ∃ dr, σ root = some dr ∧ 2 ≤ dr.kids.length := fun e => ⟨d, k1, k4 e⟩
  obtain ⟨hu, d2, g1, g2, g3⟩ := (ht.weak (show 1 ≤ 2 by omega)).up
  rw [k1] at g1
  cases g1
  obtain ⟨p, rest, dp, e, u2, hdp, hdl, hx⟩ := Up.way (show 1 ≤ leastN o by omega) h root P [] d hu k1 g3 hw
  rw [List.append_nil] at u2
  obtain ⟨G2, z1, z2⟩ := u2.lose hdp hdl hx
  have htop : top p rest = root := by
    have : ∀ (h : Nat) (b : Nat) (P up : List Nat), Way σ x h b P → ∀ p rest, P = p :: rest → top p (rest ++ up) = top b up := by
      intro h
      induction h with
      | zero =>
        intro b P up hw p rest e
        obtain ⟨_, e2⟩ := hw
        rw [e2] at e
        cases e
        rfl
      | succ h ih =>
        intro b P up hw p rest e
        obtain ⟨k, Q, hk, hw, e2⟩ := hw
        cases Q with
        | nil => cases h <;> simp [Way] at hw
        | cons q Q =>
          rw [e2] at e
          simp at e
          obtain ⟨rfl, rfl⟩ := e
          rw [List.append_assoc]
          exact ih k (q :: Q) (b :: up) hw q Q rfl
    have := this h root P [] hw p rest e
    rw [List.append_nil] at this
    exact this
  refine ⟨G2, ⟨G2, by simp [lvT], fun p hp => by simp at hp, fun k hk => ?_, by simp, Or.inl ⟨by omega, ?_, hr, Or.inl ?_⟩⟩, ?_⟩
  · simp at hk
    subst hk
    obtain ⟨k0, hk0⟩ : ∃ e, σ k = some e := by
      obtain ⟨e, he, _⟩ := (u2.kids hdp k hx).here
      exact ⟨e, he⟩
    exact ⟨k0, hk0⟩
  · subst e
    exact htop
  · subst e
    simpa [blT, blks] using z1
  · simpa [lvs] using z2
end
end Go.Proofs.YtobkgamcjfjghaaGreat.Rt
namespace Go.Proofs.YtobkgamcjfjghaaGreat.Rt
open Go.RowKit Go.Joins Go.Proofs.YtobkgamcjfjghaaGreat.Pt Go.Proofs.YtobkgamcjfjghaaGreat.Rc Go.Proofs.YtobkgamcjfjghaaGreat.Rs
set_option linter.unusedVariables false
set_option linter.unusedSimpArgs false
theorem ptr_neq {k l : Nat} {w : World} (hk : Ob w k) (hl : Ob w l) : (binOp .neq 61 (.pointer (some ⟨k, 0, none⟩)) (.pointer (some ⟨l, 0, none⟩))).run Tryz.prog w = .ok (.bool (!(k == l))) w := by
  have h := ptr_eql hk hl
  simp only [binOp, Sem.run_bind] at h ⊢
  cases r : Sem.run Tryz.prog (Op.equal 61 (.pointer (some ⟨k, 0, none⟩)) (.pointer (some ⟨l, 0, none⟩))) w with
  | ok v w' =>
    rw [r] at h
    simp [Result.andThen] at h ⊢
    obtain ⟨rfl, rfl⟩ := h
    simp
  | halt x w' =>
    rw [r] at h
    simp [Result.andThen] at h
/-- On the way up. -/
def Rm1 (o t mb h root gp : Nat) (P G0 : List Nat) (w : World) (σ0 : St) (V0 : Nat → Value) (v4 v5 v18 : Value) (wr : World) : Prop :=
  ∃ (j : Nat) (σ : St) (V : Nat → Value) (Ts : List (Nat × Nat)) (Dr : List Nat) (l : Nat), v18 = .int .i64 (j : Int) ∧ v5 = .pointer (some ⟨l, 0, none⟩) ∧ j ≤ P.length ∧ RmS o h root P G0 j σ Ts Dr l ∧ Stp t w σ0 V0 wr σ V ∧ TAt wr t o mb root ∧ Kps σ0 σ [] ∧
    wr.ownsRow w.heap.size 61 1 v4 Ts.length ((Ts.map Prod.fst).map ptr) ∧ (∀ g, v4.ownBlock = some g → ¬ Foot σ V g) ∧ (∀ (i : Nat) (hi : i < P.length), wr.cell? ⟨gp, i, none⟩ = some (ptr P[i])) ∧ (w.heap.size ≤ gp ∧ gp < wr.heap.size ∧ ¬ Foot σ V gp) ∧ v4.ownBlock ≠ some gp ∧ Ts.length ≤ 16 * j
/-- The orphans are put in anew. -/
def Rm2 (o t mb N : Nat) (G0 : List Nat) (Ts : List (Nat × Nat)) (Dr : List Nat) (w : World) (σ0 : St) (V0 : Nat → Value) (v4 v51 : Value) (wr : World) : Prop :=
  ∃ (j : Nat) (σ : St) (V : Nat → Value) (rt h : Nat) (G : List Nat), v51 = .int .i64 (j : Int) ∧ j ≤ Ts.length ∧ Stp t w σ0 V0 wr σ V ∧ TAt wr t o mb rt ∧ Kps σ0 σ [] ∧ wr.ownsRow w.heap.size 61 1 v4 Ts.length ((Ts.map Prod.fst).map ptr) ∧ (∀ g, v4.ownBlock = some g → ¬ Foot σ V g) ∧
    (∀ p ∈ Ts.drop j, Nd σ (leastN o) o p.2 p.1 ∧ p.2 ≤ h) ∧ (lvT σ (Ts.drop j) ++ G).Perm G0 ∧ (∀ k ∈ Dr, ∃ d, σ k = some d) ∧ Tree σ (leastN o) o 1 h rt (blT σ (Ts.drop j) ++ Dr) G
def RmE (o t mb x : Nat) (G : List Nat) (w : World) (σ0 : St) (V0 : Nat → Value) (e : Ending) (w' : World) : Prop :=
  e = .returned (.tuple #[]) ∧ ∃ (σ : St) (V : Nat → Value) (rt h : Nat) (G' : List Nat), Stp t w σ0 V0 w' σ V ∧ TAt w' t o mb rt ∧ Kps σ0 σ [] ∧ Tree σ (leastN o) o 2 h rt [] G' ∧ (x :: G').Perm G
section
variable {o t mb h root gp j l n : Nat} {P G0 : List Nat} {w : World} {σ0 : St} {V0 : Nat → Value}
/-- A node that has too few has one at least. -/
theorem RmS.one {σ : St} {Ts : List (Nat × Nat)} {Dr : List Nat} {d : Pd} (r : RmS o h root P G0 j σ Ts Dr l) (h1 : 4 ≤ o) (h2 : o ≤ 16) (hj : j < P.length) (hne : P.drop (j + 1) ≠ []) (hd : σ P[j] = some d) : 1 ≤ (d.kids.filter fun k => k != l).length := by
  have lt := least_two h1 h2
  obtain ⟨G1, p1, p2, p3, p4, ⟨_, p5, p6, p7⟩ | ⟨p5, _⟩⟩ := r
  case inr => omega
  rcases p7 with hz | ⟨hu, hl⟩
  · obtain ⟨C, LC, d2, pre, post, k1, k2, k3, k4, k5, k6, k7, k8, k9, k10, k11⟩ := hz
    rw [hd] at k2
    cases k2
    have hn' : ∀ k ∈ pre ++ post, k ≠ l := fun k hk e => k9 (e ▸ List.mem_cons_of_mem _ (List.mem_append_left _ (List.mem_flatMap.2 ⟨k, hk, self_mem σ j k⟩)))
    have ek : d.kids.filter (fun k => k != l) = pre ++ post := lose_kids k4 (fun hm => hn' l (List.mem_append_left _ hm) rfl) (fun hm => hn' l (List.mem_append_right _ hm) rfl)
    have := k7 hne
    rw [ek]
    rw [k4] at this
    simp only [List.length_append, List.length_cons] at this ⊢
    omega
  · obtain ⟨a1, a2, a3, a4, a5, a6, a7, a8⟩ := hu.at hd
    have hnl : d.kids.filter (fun k => k != l) = d.kids := List.filter_eq_self.2 fun k hk => by
      simp
      rintro rfl
      obtain ⟨C, LC, d2, hs, k1, k2, k3, k4, k5, k6, k7, k8⟩ := hu
      rw [hd] at k1
      cases k1
      rw [List.append_assoc] at k7
      exact (List.nodup_append.1 k7).2.2 k (kid_mem (by rw [kidsOf_some hd]; exact hk) (self_mem σ j k)) k (List.mem_append_right _ p4) rfl
    have := a8 hne
    rw [hnl]
    omega
/-- More orphans. -/
theorem Rm1.of {τ : St} {V1 : Nat → Value} {Us : List (Nat × Nat)} {Dr : List Nat} {wd W : World} {u v' : Value} (hj : j ≤ P.length) (r : RmS o h root P G0 j τ Us Dr l) (st : Stp t w σ0 V0 wd τ V1) (tr : TAt wd t o mb root) (ht : t < w.heap.size) (kp : Kps σ0 τ []) (gr : wd.grownBy W u.ownBlock) (hap : ∀ g, u.ownBlock = some g → w.heap.size ≤ g ∧ ¬ Foot τ V1 g)
    (row : W.ownsRow w.heap.size 61 1 v' Us.length ((Us.map Prod.fst).map ptr)) (hat : v'.ownBlock = u.ownBlock ∨ v'.ownBlock = some wd.heap.size) (path : ∀ (i : Nat) (hi : i < P.length), wd.cell? ⟨gp, i, none⟩ = some (ptr P[i])) (pgt : w.heap.size ≤ gp ∧ gp < wd.heap.size ∧ ¬ Foot τ V1 gp) (hne : u.ownBlock ≠ some gp) (hl : Us.length ≤ 16 * j) :
    Rm1 o t mb h root gp P G0 w σ0 V0 v' (.pointer (some ⟨l, 0, none⟩)) (.int .i64 (j : Int)) W := by
  have ke : Ke (fun k => w.heap.size ≤ k ∧ ¬ Foot τ V1 k) wd W := (Ke.refl _ wd).grown gr (fun k hk => Or.inl (hap k hk))
  have st2 : Stp t w σ0 V0 W τ V1 := ⟨st.mem.keep ke (fun k hf hq => hq.2 hf), st.foot, st.ke.trans ke (fun g hg hq => by omega)⟩
  refine ⟨j, τ, V1, Us, Dr, l, rfl, rfl, hj, r, st2, tr.keep ke (fun hq => by omega), kp, row, fun g hg hf => ?_, fun i hi => ?_, ⟨pgt.1, Nat.lt_of_lt_of_le pgt.2.1 gr.size, pgt.2.2⟩, fun e => ?_, hl⟩
  · rcases hat with e | e
    · exact (hap g (by rw [← e]; exact hg)).2 hf
    · rw [hg] at e
      cases e
      exact absurd (st.mem.foot_lt hf) (Nat.lt_irrefl _)
  · exact (World.cell?_of_block (w := wd) (w' := W) (a := ⟨gp, i, none⟩) (gr.block gp pgt.2.1 (fun e => hne e.symm))).trans (path i hi)
  · rcases hat with e2 | e2
    · exact hne (e2 ▸ e)
    · rw [e] at e2
      cases e2
      omega
/-- One orphan more is put in. -/
theorem Rm2.next {N : Nat} {Ts : List (Nat × Nat)} {Dr : List Nat} {σ τ : St} {V V1 : Nat → Value} {rt rt2 H H2 : Nat} {G G2 : List Nat} {v4 : Value} {wr w2 : World} {p : Nat × Nat} (hj : j < Ts.length) (hdr : Ts.drop j = p :: Ts.drop (j + 1)) (ht : t < w.heap.size) (st : Stp t w σ0 V0 wr σ V) (kp : Kps σ0 σ []) (row : wr.ownsRow w.heap.size 61 1 v4 Ts.length ((Ts.map Prod.fst).map ptr)) (ap : ∀ g, v4.ownBlock = some g → ¬ Foot σ V g)
    (nd : ∀ q ∈ Ts.drop j, Nd σ (leastN o) o q.2 q.1 ∧ q.2 ≤ H) (pm : (lvT σ (Ts.drop j) ++ G).Perm G0) (hD : ∀ k ∈ Dr, ∃ d, σ k = some d)
    (s2 : Stp t wr σ V w2 τ V1) (t2 : TAt w2 t o mb rt2) (k2 : Kps σ τ (blT σ (Ts.drop (j + 1)) ++ Dr)) (tr2 : Tree τ (leastN o) o 1 H2 rt2 (blT σ (Ts.drop (j + 1)) ++ Dr) G2) (p2 : G2.Perm (lvs σ p.2 p.1 ++ G)) (hh : H ≤ H2) :
    Rm2 o t mb N G0 Ts Dr w σ0 V0 v4 (.int .i64 ((j + 1 : Nat) : Int)) w2 := by
  have hout : ∀ k ∈ blT σ (Ts.drop (j + 1)), τ k = σ k := fun k hk => k2.out k (List.mem_append_left _ hk)
  obtain ⟨e1, e2⟩ := blT_agree hout
  have hin : ∀ q ∈ Ts.drop (j + 1), q ∈ Ts.drop j := fun q hq => by rw [hdr]; exact List.mem_cons_of_mem _ hq
  refine ⟨j + 1, τ, V1, rt2, H2, G2, rfl, hj, st.trans s2, t2, kp.trans (k2.sub fun k hk => by cases hk), own_same row fun g hg => ?_, fun g hg hf => ?_, fun q hq => ?_, ?_, fun k hk => ?_, ?_⟩
  · have := row.lt g hg
    exact (s2.out this.2 (ap g hg) (by omega)).1
  · have := row.lt g hg
    exact (s2.out this.2 (ap g hg) (by omega)).2 hf
  · obtain ⟨a, b⟩ := nd q (hin q hq)
    exact ⟨a.agree fun y hy => hout y (List.mem_flatMap.2 ⟨q, hq, hy⟩), Nat.le_trans b hh⟩
  · rw [e2]
    refine List.Perm.trans ?_ pm
    rw [hdr, lvT_cons]
    rw [List.perm_iff_count] at p2 ⊢
    intro a
    have := p2 a
    simp only [List.count_append] at this ⊢
    omega
  · obtain ⟨d, hd⟩ := hD k hk
    exact k2.part k d hd
  · rw [e1]
    exact tr2
/-- The root stays. -/
theorem Tree.done {σ : St} {lo hi b : Nat} {E G : List Nat} {d : Pd} (ht : Tree σ lo hi 1 h b E G) (hd : σ b = some d) (hk : 1 ≤ h → d.kids.length ≠ 1) : Tree σ lo hi 2 h b [] G := by
  obtain ⟨d', k1, k2, k3, k4, k5, k6, k7, k8⟩ := ht
  rw [hd] at k1
  cases k1
  exact ⟨d, hd, k2, k3, fun e => by have := k4 e; have := hk e; omega, k5, k6, by rw [List.append_nil]; exact (List.nodup_append.1 k7).1, k8⟩
end
end Go.Proofs.YtobkgamcjfjghaaGreat.Rt
