/-
  The parts of an R*-tree in memory: a store of parts, each in a block of its own, its kids in a row of its own. No function of the program here.
-/
import Derived.Test.YtobkgamcjfjghaaGreatMp01
import Derived.OwnWalk
import Derived.Maps.AppendAt
/-
  An R*-tree, plainly: parts by their blocks (a store), which are sound, what lies below and round one, and what each step of the program's put and remove does to that. No program here.
-/
namespace Go.Proofs.YtobkgamcjfjghaaGreat.Rt
open Go.Proofs.YtobkgamcjfjghaaGreat.Pt Go.Proofs.YtobkgamcjfjghaaGreat.Rc Go.Proofs.YtobkgamcjfjghaaGreat.Rs
set_option linter.unusedVariables false
/-- A part: its level, its rectangle, its number, its kids by their blocks. -/
structure Pd where
  lvl : Int
  r : R4
  id : Int
  kids : List Nat
/-- Parts by their blocks. -/
abbrev St := Nat → Option Pd
def upd (σ : St) (b : Nat) (d : Pd) : St := fun k => if k = b then some d else σ k
theorem upd_same (σ : St) (b : Nat) (d : Pd) : upd σ b d b = some d := by simp [upd]
theorem upd_other (σ : St) {b k : Nat} (d : Pd) (h : k ≠ b) : upd σ b d k = σ k := by simp [upd, h]
def joinR (a b : R4) : R4 := ⟨mn a.x1 b.x1, mn a.y1 b.y1, mx a.x2 b.x2, mx a.y2 b.y2⟩
/-- As fit goes: it starts from the first one. -/
def hullF : List R4 → R4
  | [] => ⟨0, 0, 0, 0⟩
  | r :: t => (r :: t).foldl joinR r
def rOf (σ : St) (b : Nat) : R4 := match σ b with
  | some d => d.r
  | none => ⟨0, 0, 0, 0⟩
def kidsOf (σ : St) (b : Nat) : List Nat := match σ b with
  | some d => d.kids
  | none => []
theorem rOf_some {σ : St} {b : Nat} {d : Pd} (h : σ b = some d) : rOf σ b = d.r := by simp [rOf, h]
theorem kidsOf_some {σ : St} {b : Nat} {d : Pd} (h : σ b = some d) : kidsOf σ b = d.kids := by simp [kidsOf, h]
def hull (σ : St) (l : List Nat) : R4 := hullF (l.map (rOf σ))
/-- A sound part of height h (its level is one less); lo and hi: how many kids. -/
def Nd (σ : St) (lo hi : Nat) : Nat → Nat → Prop
  | 0, b => ∃ d, σ b = some d ∧ d.lvl = -1 ∧ d.kids = [] ∧ may4 d.r
  | h + 1, b => ∃ d, σ b = some d ∧ d.lvl = (h : Int) ∧ lo ≤ d.kids.length ∧ d.kids.length ≤ hi ∧ d.r = hull σ d.kids ∧ ∀ k ∈ d.kids, Nd σ lo hi h k
/-- All blocks at a part and below it; all items. -/
def blks (σ : St) : Nat → Nat → List Nat
  | 0, b => [b]
  | h + 1, b => b :: (kidsOf σ b).flatMap (blks σ h)
def lvs (σ : St) : Nat → Nat → List Nat
  | 0, b => [b]
  | h + 1, b => (kidsOf σ b).flatMap (lvs σ h)
theorem self_mem (σ : St) : ∀ (h b : Nat), b ∈ blks σ h b
  | 0, b => by simp [blks]
  | h + 1, b => by simp [blks]
theorem kid_mem {σ : St} {h b k j : Nat} (hk : k ∈ kidsOf σ b) (hj : j ∈ blks σ h k) : j ∈ blks σ (h + 1) b := by
  simp only [blks, List.mem_cons, List.mem_flatMap]
  exact Or.inr ⟨k, hk, hj⟩
section
variable {σ τ : St}
theorem kids_agree {b : Nat} (h : τ b = σ b) : kidsOf τ b = kidsOf σ b := by simp [kidsOf, h]
theorem flat_congr {f g : Nat → List Nat} : ∀ {l : List Nat}, (∀ k ∈ l, f k = g k) → l.flatMap f = l.flatMap g
  | [], _ => rfl
  | a :: l, h => by
    rw [List.flatMap_cons, List.flatMap_cons, h a (by simp), flat_congr fun k hk => h k (by simp [hk])]
theorem blks_agree : ∀ (h b : Nat), (∀ k ∈ blks σ h b, τ k = σ k) → blks τ h b = blks σ h b
  | 0, b, _ => rfl
  | h + 1, b, ha => by
    have hb : τ b = σ b := ha b (self_mem σ (h + 1) b)
    simp only [blks]
    rw [kids_agree hb, flat_congr fun k hk => blks_agree h k fun j hj => ha j (kid_mem hk hj)]
theorem lvs_agree : ∀ (h b : Nat), (∀ k ∈ blks σ h b, τ k = σ k) → lvs τ h b = lvs σ h b
  | 0, b, _ => rfl
  | h + 1, b, ha => by
    have hb : τ b = σ b := ha b (self_mem σ (h + 1) b)
    simp only [lvs]
    rw [kids_agree hb, flat_congr fun k hk => lvs_agree h k fun j hj => ha j (kid_mem hk hj)]
theorem rOf_agree {b : Nat} (h : τ b = σ b) : rOf τ b = rOf σ b := by simp [rOf, h]
theorem hull_agree {l : List Nat} (h : ∀ k ∈ l, τ k = σ k) : hull τ l = hull σ l := by
  unfold hull
  congr 1
  exact List.map_congr_left fun k hk => rOf_agree (h k hk)
theorem Nd.agree {lo hi : Nat} : ∀ {h b : Nat}, Nd σ lo hi h b → (∀ k ∈ blks σ h b, τ k = σ k) → Nd τ lo hi h b
  | 0, b, hn, ha => by
    obtain ⟨d, h1, h2⟩ := hn
    exact ⟨d, by rw [ha b (self_mem σ 0 b)]; exact h1, h2⟩
  | h + 1, b, hn, ha => by
    obtain ⟨d, h1, h2, h3, h4, h5, h6⟩ := hn
    have hk : ∀ k ∈ d.kids, k ∈ kidsOf σ b := fun k hk => by rw [kidsOf_some h1]; exact hk
    refine ⟨d, by rw [ha b (self_mem σ (h + 1) b)]; exact h1, h2, h3, h4, ?_, fun k hk' => (h6 k hk').agree fun j hj => ha j (kid_mem (hk k hk') hj)⟩
    rw [hull_agree fun k hk' => ha k (kid_mem (hk k hk') (self_mem σ h k))]
    exact h5
theorem Nd.here {lo hi : Nat} : ∀ {h b : Nat}, Nd σ lo hi h b → ∃ d, σ b = some d ∧ d.lvl = (h : Int) - 1
  | 0, b, ⟨d, h1, h2, _⟩ => ⟨d, h1, by simpa using h2⟩
  | h + 1, b, ⟨d, h1, h2, _⟩ => ⟨d, h1, by rw [h2]; omega⟩
theorem hullF_may : ∀ {l : List R4}, (∀ r ∈ l, may4 r) → may4 (hullF l)
  | [], _ => may0
  | r :: t, h => by
    have go : ∀ (l : List R4) (a : R4), may4 a → (∀ r ∈ l, may4 r) → may4 (l.foldl joinR a) := by
      intro l
      induction l with
      | nil => intro a ha _; exact ha
      | cons x l ih => intro a ha hl; exact ih _ (Rs.join_may ha (hl x (by simp))) fun r hr => hl r (by simp [hr])
    exact go (r :: t) r (h r (by simp)) h
theorem Nd.may {lo hi : Nat} : ∀ {h b : Nat}, Nd σ lo hi h b → may4 (rOf σ b)
  | 0, b, ⟨d, h1, _, _, h4⟩ => by rw [rOf_some h1]; exact h4
  | h + 1, b, ⟨d, h1, _, _, _, h5, h6⟩ => by
    rw [rOf_some h1, h5]
    unfold hull
    refine hullF_may fun r hr => ?_
    obtain ⟨k, hk, rfl⟩ := List.mem_map.1 hr
    exact (h6 k hk).may
end
/-- What lies round a part of height h in block b: the nodes above it, all other blocks, all other items. -/
inductive Spine (σ : St) (lo hi rlo : Nat) : Nat → Nat → List Nat → List Nat → List Nat → Prop
  | root (h b : Nat) : Spine σ lo hi rlo h b [] [] []
  | step {h b q : Nat} {d : Pd} {pre post up C LC : List Nat} : σ q = some d → d.lvl = (h : Int) → d.kids = pre ++ b :: post → (∀ k ∈ pre ++ post, Nd σ lo hi h k) → d.kids.length ≤ hi →
      (if up = [] then rlo else lo) ≤ d.kids.length → Spine σ lo hi rlo (h + 1) q up C LC → Spine σ lo hi rlo h b (q :: up) (q :: ((pre ++ post).flatMap (blks σ h) ++ C)) ((pre ++ post).flatMap (lvs σ h) ++ LC)
theorem Spine.agree {σ τ : St} {lo hi rlo h b : Nat} {up C LC : List Nat} (hs : Spine σ lo hi rlo h b up C LC) : (∀ k ∈ C, τ k = σ k) → Spine τ lo hi rlo h b up C LC := by
  induction hs with
  | root h b => exact fun _ => .root h b
  | @step h b q d pre post up C LC h1 h2 h3 h4 h5 h6 _ ih =>
    intro ha
    have hq : τ q = σ q := ha q (by simp)
    have hk : ∀ k ∈ pre ++ post, ∀ j ∈ blks σ h k, τ j = σ j := fun k hk j hj => ha j (by
      refine List.mem_cons_of_mem _ (List.mem_append_left _ (List.mem_flatMap.2 ⟨k, hk, hj⟩)))
    have e1 : (pre ++ post).flatMap (blks τ h) = (pre ++ post).flatMap (blks σ h) := flat_congr fun k hk' => blks_agree h k (hk k hk')
    have e2 : (pre ++ post).flatMap (lvs τ h) = (pre ++ post).flatMap (lvs σ h) := flat_congr fun k hk' => lvs_agree h k (hk k hk')
    rw [← e1, ← e2]
    exact .step (hq.trans h1) h2 h3 (fun k hk' => (h4 k hk').agree (hk k hk')) h5 h6 (ih fun k hk' => ha k (List.mem_cons_of_mem _ (List.mem_append_right _ hk')))
/-- The root, from a part and what lies above it. -/
def top (b : Nat) : List Nat → Nat
  | [] => b
  | q :: up => top q up
theorem blks_self {σ : St} {h b : Nat} {d : Pd} (hb : σ b = some d) : Rt.blks σ (h + 1) b = b :: d.kids.flatMap (Rt.blks σ h) := by simp only [Rt.blks, kidsOf_some hb]
theorem lvs_self {σ : St} {h b : Nat} {d : Pd} (hb : σ b = some d) : Rt.lvs σ (h + 1) b = d.kids.flatMap (Rt.lvs σ h) := by simp only [Rt.lvs, kidsOf_some hb]
/-- One part, and what may be added beside it: the node above them is next. -/
theorem up_next {σ τ : St} {lo hi rlo h b q : Nat} {up C LC extra : List Nat} (hs : Spine σ lo hi rlo (h + 1) b (q :: up) C LC) (hC : C.Nodup) (ha : ∀ k ∈ C, k ≠ q → τ k = σ k)
    (hq : ∀ d, σ q = some d → τ q = some { d with kids := d.kids ++ extra }) (hb : ∀ k ∈ b :: extra, Nd τ lo hi (h + 1) k) :
    ∃ C2 LC2 d, Spine τ lo hi rlo (h + 2) q up C2 LC2 ∧ τ q = some d ∧ d.lvl = ((h + 1 : Nat) : Int) ∧ (∀ k ∈ d.kids, Nd τ lo hi (h + 1) k) ∧ d.kids.length ≤ hi + extra.length ∧ (if up = [] then rlo else lo) ≤ d.kids.length ∧
      (Rt.blks τ (h + 2) q ++ C2).Perm ((b :: extra).flatMap (Rt.blks τ (h + 1)) ++ C) ∧ (Rt.lvs τ (h + 2) q ++ LC2).Perm ((b :: extra).flatMap (Rt.lvs τ (h + 1)) ++ LC) := by
  cases hs with
  | @step _ _ _ d pre post _ C2 LC2 h1 h2 h3 h4 h5 h6 h7 =>
    have hq' := hq d h1
    rw [List.nodup_cons] at hC
    have hqn : ∀ k ∈ (pre ++ post).flatMap (Rt.blks σ (h + 1)) ++ C2, k ≠ q := fun k hk e => hC.1 (e ▸ hk)
    have hk : ∀ k ∈ pre ++ post, ∀ j ∈ Rt.blks σ (h + 1) k, τ j = σ j := fun k hk j hj =>
      have hm : j ∈ (pre ++ post).flatMap (Rt.blks σ (h + 1)) ++ C2 := List.mem_append_left _ (List.mem_flatMap.2 ⟨k, hk, hj⟩)
      ha j (List.mem_cons_of_mem _ hm) (hqn j hm)
    have e1 : ∀ l : List Nat, (∀ k ∈ l, k ∈ pre ++ post) → l.flatMap (Rt.blks τ (h + 1)) = l.flatMap (Rt.blks σ (h + 1)) := fun l hl => flat_congr fun k hk' => blks_agree (h + 1) k (hk k (hl k hk'))
    have e2 : ∀ l : List Nat, (∀ k ∈ l, k ∈ pre ++ post) → l.flatMap (Rt.lvs τ (h + 1)) = l.flatMap (Rt.lvs σ (h + 1)) := fun l hl => flat_congr fun k hk' => lvs_agree (h + 1) k (hk k (hl k hk'))
    refine ⟨C2, LC2, _, h7.agree fun k hk' => ha k (List.mem_cons_of_mem _ (List.mem_append_right _ hk')) (hqn k (List.mem_append_right _ hk')), hq', by simpa using h2, ?_, ?_, ?_, ?_, ?_⟩
    · intro k hk'
      simp only [h3, List.mem_append, List.mem_cons] at hk'
      rcases hk' with (hp | rfl | hp) | he
      · exact (h4 k (by simp [hp])).agree (hk k (by simp [hp]))
      · exact hb k (by simp)
      · exact (h4 k (by simp [hp])).agree (hk k (by simp [hp]))
      · exact hb k (by simp [he])
    · simp only [List.length_append]; omega
    · simp only [List.length_append]; omega
    · rw [show h + 2 = h + 1 + 1 from rfl, blks_self hq']
      simp only [h3, List.flatMap_append, List.flatMap_cons, List.cons_append]
      rw [e1 pre (fun k hk => by simp [hk]), e1 post (fun k hk => by simp [hk])]
      rw [List.perm_iff_count]
      intro a
      simp only [List.count_cons, List.count_append]
      omega
    · rw [show h + 2 = h + 1 + 1 from rfl, lvs_self hq']
      simp only [h3, List.flatMap_append, List.flatMap_cons]
      rw [e2 pre (fun k hk => by simp [hk]), e2 post (fun k hk => by simp [hk])]
      rw [List.perm_iff_count]
      intro a
      simp only [List.count_append]
      omega
/-- On the way up: node b of height h + 1 may have one kid too many, and its rectangle may be anything. -/
def Up (σ : St) (lo hi rlo h b : Nat) (up E G : List Nat) : Prop :=
  ∃ C LC d, Spine σ lo hi rlo (h + 1) b up C LC ∧ σ b = some d ∧ d.lvl = (h : Int) ∧ (∀ k ∈ d.kids, Nd σ lo hi h k) ∧ (up = [] → 1 ≤ h → rlo ≤ d.kids.length) ∧ (up ≠ [] → lo ≤ d.kids.length) ∧ d.kids.length ≤ hi + 1 ∧
    (Rt.blks σ (h + 1) b ++ C ++ E).Nodup ∧ (Rt.lvs σ (h + 1) b ++ LC).Perm G
/-- A sound tree. -/
def Tree (σ : St) (lo hi rlo h b : Nat) (E G : List Nat) : Prop :=
  ∃ d, σ b = some d ∧ d.lvl = (h : Int) ∧ (∀ k ∈ d.kids, Nd σ lo hi h k) ∧ (1 ≤ h → rlo ≤ d.kids.length) ∧ d.kids.length ≤ hi ∧ d.r = hull σ d.kids ∧ (Rt.blks σ (h + 1) b ++ E).Nodup ∧ (Rt.lvs σ (h + 1) b).Perm G
theorem kids_not_self {σ : St} {h b : Nat} {d : Pd} (hb : σ b = some d) (hn : (Rt.blks σ (h + 1) b).Nodup) : ∀ k ∈ d.kids, ∀ j ∈ Rt.blks σ h k, j ≠ b := by
  intro k hk j hj e
  simp only [Rt.blks, kidsOf_some hb, List.nodup_cons] at hn
  exact hn.1 (e ▸ List.mem_flatMap.2 ⟨k, hk, hj⟩)
/-- A node anew: its kids are sound beside it, so it is. -/
theorem Nd.mk {σ τ : St} {lo hi h b : Nat} {d : Pd} (ht : τ b = some d) (hl : d.lvl = (h : Int)) (h1 : lo ≤ d.kids.length) (h2 : d.kids.length ≤ hi) (hr : d.r = hull σ d.kids) (hk : ∀ k ∈ d.kids, Nd σ lo hi h k) (ha : ∀ k ∈ d.kids, ∀ j ∈ Rt.blks σ h k, τ j = σ j) : Nd τ lo hi (h + 1) b :=
  ⟨d, ht, hl, h1, h2, by rw [hr]; exact (hull_agree fun k hk' => ha k hk' k (self_mem σ h k)).symm, fun k hk' => (hk k hk').agree (ha k hk')⟩
theorem blks_mk {σ τ : St} {h b : Nat} {d : Pd} (ht : τ b = some d) (ha : ∀ k ∈ d.kids, ∀ j ∈ Rt.blks σ h k, τ j = σ j) : Rt.blks τ (h + 1) b = b :: d.kids.flatMap (Rt.blks σ h) := by
  simp only [Rt.blks, kidsOf_some ht]
  rw [flat_congr fun k hk => blks_agree h k (ha k hk)]
theorem lvs_mk {σ τ : St} {h b : Nat} {d : Pd} (ht : τ b = some d) (ha : ∀ k ∈ d.kids, ∀ j ∈ Rt.blks σ h k, τ j = σ j) : Rt.lvs τ (h + 1) b = d.kids.flatMap (Rt.lvs σ h) := by
  simp only [Rt.lvs, kidsOf_some ht]
  rw [flat_congr fun k hk => lvs_agree h k (ha k hk)]
/-- The blocks that stand where a sound part stands are known. -/
theorem Nd.known {σ : St} {lo hi : Nat} : ∀ {h b : Nat}, Nd σ lo hi h b → ∀ k ∈ Rt.blks σ h b, ∃ d, σ k = some d
  | 0, b, ⟨d, h1, _⟩, k, hk => by simp [Rt.blks] at hk; subst hk; exact ⟨d, h1⟩
  | h + 1, b, ⟨d, h1, _, _, _, _, h6⟩, k, hk => by
    rw [blks_self h1] at hk
    rcases List.mem_cons.1 hk with rfl | hk
    · exact ⟨d, h1⟩
    · obtain ⟨j, hj, hk⟩ := List.mem_flatMap.1 hk
      exact (h6 j hj).known k hk
theorem Spine.known {σ : St} {lo hi rlo h b : Nat} {up C LC : List Nat} (hs : Spine σ lo hi rlo h b up C LC) : ∀ k ∈ C, ∃ d, σ k = some d := by
  induction hs with
  | root => intro k hk; simp at hk
  | @step h b q d pre post up C LC h1 h2 h3 h4 h5 h6 _ ih =>
    intro k hk
    rcases List.mem_cons.1 hk with rfl | hk
    · exact ⟨d, h1⟩
    rcases List.mem_append.1 hk with hk | hk
    · obtain ⟨j, hj, hk⟩ := List.mem_flatMap.1 hk
      exact (h4 j hj).known k hk
    · exact ih k hk
theorem Spine.head_mem {σ : St} {lo hi rlo h b q : Nat} {up C LC : List Nat} (hs : Spine σ lo hi rlo h b (q :: up) C LC) : q ∈ C := by
  cases hs; simp
/-- Fit, and few enough: the node above is next. -/
theorem Up.fit {σ : St} {lo hi rlo h b q : Nat} {up E G : List Nat} {d : Pd} (hu : Up σ lo hi rlo h b (q :: up) E G) (hd : σ b = some d) (hl : d.kids.length ≤ hi) (hr : rlo ≤ lo) :
    Up (upd σ b { d with r := hull σ d.kids }) lo hi rlo (h + 1) q up E G := by
  obtain ⟨C, LC, d2, hs, h1, h2, h3, -, h5, h6, h7, h8⟩ := hu
  rw [hd] at h1
  cases h1
  have hN := h7
  rw [List.append_assoc, List.nodup_append] at h7
  obtain ⟨n1, n2, n3⟩ := h7
  rw [List.nodup_append] at n2
  obtain ⟨nC, nE, nCE⟩ := n2
  have hself := kids_not_self hd n1
  have hCb : ∀ k ∈ C, k ≠ b := fun k hk e => n3 b (self_mem σ (h + 1) b) k (List.mem_append_left _ hk) e.symm
  have hqb : q ≠ b := hCb q hs.head_mem
  have ag : ∀ k ∈ d.kids, ∀ j ∈ Rt.blks σ h k, upd σ b { d with r := hull σ d.kids } j = σ j := fun k hk j hj => upd_other _ _ (hself k hk j hj)
  have hnd : Nd (upd σ b { d with r := hull σ d.kids }) lo hi (h + 1) b := Nd.mk (upd_same _ _ _) h2 (h5 (by simp)) hl rfl h3 ag
  obtain ⟨C2, LC2, d2, k1, k2, k3, k4, k5, k6, k7, k8⟩ := up_next (extra := []) (τ := upd σ b { d with r := hull σ d.kids }) hs nC (fun k hk _ => upd_other _ _ (hCb k hk)) (fun d' hd' => by rw [upd_other _ _ hqb, hd']; simp) (fun k hk => by simp at hk; subst hk; exact hnd)
  have eb := blks_mk (τ := upd σ b { d with r := hull σ d.kids }) (upd_same _ _ _) ag
  have el := lvs_mk (τ := upd σ b { d with r := hull σ d.kids }) (upd_same _ _ _) ag
  simp only [List.flatMap_cons, List.flatMap_nil, List.append_nil] at k7 k8
  rw [eb] at k7
  rw [el] at k8
  refine ⟨C2, LC2, d2, k1, k2, by simpa using k3, k4, fun e _ => by rw [if_pos e] at k6; exact k6, fun e => by rw [if_neg e] at k6; exact k6, by simpa using Nat.le_succ_of_le k5, ?_, ?_⟩
  · refine ((k7.append_right E).nodup_iff).2 ?_
    rw [blks_self hd] at hN
    exact hN
  · refine k8.trans ?_
    rw [lvs_self hd] at h8
    exact h8
/-- Too many: split into two, the new one is a kid of the node above. -/
theorem Up.split {σ τ : St} {lo hi rlo h b q o : Nat} {up E G S L : List Nat} {d dq : Pd} {io : Int} (hu : Up σ lo hi rlo h b (q :: up) E G) (hd : σ b = some d) (hdq : σ q = some dq) (ho : σ o = none) (hoE : o ∉ E) (hp : (S ++ L).Perm d.kids) (hS : lo ≤ S.length) (hL : lo ≤ L.length) (h1lo : 1 ≤ lo) (hr : rlo ≤ lo)
    (tb : τ b = some { d with r := hull σ S, kids := S }) (to : τ o = some ⟨d.lvl, hull σ L, io, L⟩) (tq : τ q = some { dq with kids := dq.kids ++ [o] }) (tt : ∀ k, k ≠ b → k ≠ o → k ≠ q → τ k = σ k) :
    Up τ lo hi rlo (h + 1) q up E G := by
  obtain ⟨C, LC, d2, hs, h1, h2, h3, -, h5, h6, h7, h8⟩ := hu
  rw [hd] at h1
  cases h1
  have hN := h7
  rw [List.append_assoc, List.nodup_append] at h7
  obtain ⟨n1, n2, n3⟩ := h7
  rw [List.nodup_append] at n2
  obtain ⟨nC, nE, nCE⟩ := n2
  have hself := kids_not_self hd n1
  have hCb : ∀ k ∈ C, k ≠ b := fun k hk e => n3 b (self_mem σ (h + 1) b) k (List.mem_append_left _ hk) e.symm
  have hqb : q ≠ b := hCb q hs.head_mem
  have hko : ∀ k, (∃ d, σ k = some d) → k ≠ o := fun k ⟨d, hk⟩ e => by rw [e, ho] at hk; cases hk
  have hbo : b ≠ o := hko b ⟨d, hd⟩
  have hqo : q ≠ o := hko q ⟨dq, hdq⟩
  have hkq : ∀ k ∈ d.kids, ∀ j ∈ Rt.blks σ h k, j ≠ q := fun k hk j hj e => n3 j (by rw [blks_self hd]; exact List.mem_cons_of_mem _ (List.mem_flatMap.2 ⟨k, hk, hj⟩)) q (List.mem_append_left _ hs.head_mem) e
  have ag : ∀ k ∈ d.kids, ∀ j ∈ Rt.blks σ h k, τ j = σ j := fun k hk j hj => tt j (hself k hk j hj) (hko j ((h3 k hk).known j hj)) (hkq k hk j hj)
  have mS : ∀ k ∈ S, k ∈ d.kids := fun k hk => hp.subset (List.mem_append_left _ hk)
  have mL : ∀ k ∈ L, k ∈ d.kids := fun k hk => hp.subset (List.mem_append_right _ hk)
  have len := hp.length_eq
  rw [List.length_append] at len
  have ndb : Nd τ lo hi (h + 1) b := Nd.mk (d := { d with r := hull σ S, kids := S }) tb h2 hS (show S.length ≤ hi by omega) rfl (fun k hk => h3 k (mS k hk)) (fun k hk => ag k (mS k hk))
  have ndo : Nd τ lo hi (h + 1) o := Nd.mk (d := ⟨d.lvl, hull σ L, io, L⟩) to h2 hL (show L.length ≤ hi by omega) rfl (fun k hk => h3 k (mL k hk)) (fun k hk => ag k (mL k hk))
  obtain ⟨C2, LC2, d2, k1, k2, k3, k4, k5, k6, k7, k8⟩ := up_next (extra := [o]) (τ := τ) hs nC (fun k hk hkq => tt k (hCb k hk) (hko k (hs.known k hk)) hkq) (fun d' hd' => by rw [hdq] at hd'; cases hd'; exact tq) (fun k hk => by
    simp at hk
    rcases hk with rfl | rfl
    · exact ndb
    · exact ndo)
  have eb := blks_mk (σ := σ) (h := h) tb (fun k hk => ag k (mS k hk))
  have eo := blks_mk (σ := σ) (h := h) to (fun k hk => ag k (mL k hk))
  have lb := lvs_mk (σ := σ) (h := h) tb (fun k hk => ag k (mS k hk))
  have lo' := lvs_mk (σ := σ) (h := h) to (fun k hk => ag k (mL k hk))
  simp only [List.flatMap_cons, List.flatMap_nil, List.append_nil] at k7 k8
  rw [eb, eo] at k7
  rw [lb, lo'] at k8
  have pb := hp.flatMap_right (Rt.blks σ h)
  have pl := hp.flatMap_right (Rt.lvs σ h)
  rw [List.flatMap_append] at pb pl
  refine ⟨C2, LC2, d2, k1, k2, by simpa using k3, k4, fun e _ => by rw [if_pos e] at k6; exact k6, fun e => by rw [if_neg e] at k6; exact k6, by simpa using k5, ?_, ?_⟩
  · have big : ((Rt.blks τ (h + 2) q ++ C2) ++ E).Perm (o :: (Rt.blks σ (h + 1) b ++ C ++ E)) := by
      rw [List.perm_iff_count] at k7 pb ⊢
      intro a
      have := k7 a
      have := pb a
      rw [blks_self hd]
      simp only [List.count_append, List.count_cons] at *
      omega
    refine (big.nodup_iff).2 (List.nodup_cons.2 ⟨fun hm => ?_, hN⟩)
    rcases List.mem_append.1 hm with hm | hm
    · rcases List.mem_append.1 hm with hm | hm
      · rw [blks_self hd] at hm
        rcases List.mem_cons.1 hm with e | hm
        · exact hbo e.symm
        · obtain ⟨j, hj, hm⟩ := List.mem_flatMap.1 hm
          exact hko o ((h3 j hj).known o hm) rfl
      · exact hko o (hs.known o hm) rfl
    · exact hoE hm
  · refine k8.trans (List.Perm.trans ?_ h8)
    rw [lvs_self hd]
    rw [List.perm_iff_count] at pl ⊢
    intro a
    have := pl a
    simp only [List.count_append] at *
    omega
theorem Spine.of_nil {σ : St} {lo hi rlo h b : Nat} {C LC : List Nat} (hs : Spine σ lo hi rlo h b [] C LC) : C = [] ∧ LC = [] := by
  cases hs; exact ⟨rfl, rfl⟩
/-- The root, fit, and few enough. -/
theorem Up.root {σ : St} {lo hi rlo h b : Nat} {E G : List Nat} {d : Pd} (hu : Up σ lo hi rlo h b [] E G) (hd : σ b = some d) (hl : d.kids.length ≤ hi) : Tree (upd σ b { d with r := hull σ d.kids }) lo hi rlo h b E G := by
  obtain ⟨C, LC, d2, hs, h1, h2, h3, h4, -, h6, h7, h8⟩ := hu
  rw [hd] at h1
  cases h1
  obtain ⟨rfl, rfl⟩ := hs.of_nil
  rw [List.append_nil] at h7 h8
  have n1 := (List.nodup_append.1 h7).1
  have hself := kids_not_self hd n1
  have ag : ∀ k ∈ d.kids, ∀ j ∈ Rt.blks σ h k, upd σ b { d with r := hull σ d.kids } j = σ j := fun k hk j hj => upd_other _ _ (hself k hk j hj)
  have eb := blks_mk (τ := upd σ b { d with r := hull σ d.kids }) (upd_same _ _ _) ag
  have el := lvs_mk (τ := upd σ b { d with r := hull σ d.kids }) (upd_same _ _ _) ag
  refine ⟨_, upd_same _ _ _, h2, fun k hk => (h3 k hk).agree (ag k hk), h4 rfl, hl, (hull_agree fun k hk => ag k hk k (self_mem σ h k)).symm, ?_, ?_⟩
  · rw [eb, ← blks_self hd]; exact h7
  · rw [el, ← lvs_self hd]; exact h8
/-- The root, split: both parts under a new one. -/
theorem Up.grow {σ τ : St} {lo hi rlo h b o t : Nat} {E G S L : List Nat} {d : Pd} {io it : Int} (hu : Up σ lo hi rlo h b [] E G) (hd : σ b = some d) (ho : σ o = none) (ht : σ t = none) (hot : o ≠ t) (hoE : o ∉ E) (htE : t ∉ E) (hp : (S ++ L).Perm d.kids) (hS : lo ≤ S.length) (hL : lo ≤ L.length) (h1lo : 1 ≤ lo) (hr : rlo ≤ 2) (h2hi : 2 ≤ hi)
    (tb : τ b = some { d with r := hull σ S, kids := S }) (to : τ o = some ⟨d.lvl, hull σ L, io, L⟩) (tt : τ t = some ⟨d.lvl + 1, hull τ [b, o], it, [b, o]⟩) (tk : ∀ k, k ≠ b → k ≠ o → k ≠ t → τ k = σ k) :
    Tree τ lo hi rlo (h + 1) t E G := by
  obtain ⟨C, LC, d2, hs, h1, h2, h3, h4, -, h6, h7, h8⟩ := hu
  rw [hd] at h1
  cases h1
  obtain ⟨rfl, rfl⟩ := hs.of_nil
  rw [List.append_nil] at h7 h8
  have n1 := (List.nodup_append.1 h7).1
  have hself := kids_not_self hd n1
  have hko : ∀ k, (∃ d, σ k = some d) → k ≠ o := fun k ⟨d, hk⟩ e => by rw [e, ho] at hk; cases hk
  have hkt : ∀ k, (∃ d, σ k = some d) → k ≠ t := fun k ⟨d, hk⟩ e => by rw [e, ht] at hk; cases hk
  have ag : ∀ k ∈ d.kids, ∀ j ∈ Rt.blks σ h k, τ j = σ j := fun k hk j hj => tk j (hself k hk j hj) (hko j ((h3 k hk).known j hj)) (hkt j ((h3 k hk).known j hj))
  have mS : ∀ k ∈ S, k ∈ d.kids := fun k hk => hp.subset (List.mem_append_left _ hk)
  have mL : ∀ k ∈ L, k ∈ d.kids := fun k hk => hp.subset (List.mem_append_right _ hk)
  have len := hp.length_eq
  rw [List.length_append] at len
  have ndb : Nd τ lo hi (h + 1) b := Nd.mk (d := { d with r := hull σ S, kids := S }) tb h2 hS (show S.length ≤ hi by omega) rfl (fun k hk => h3 k (mS k hk)) (fun k hk => ag k (mS k hk))
  have ndo : Nd τ lo hi (h + 1) o := Nd.mk (d := ⟨d.lvl, hull σ L, io, L⟩) to h2 hL (show L.length ≤ hi by omega) rfl (fun k hk => h3 k (mL k hk)) (fun k hk => ag k (mL k hk))
  have eb := blks_mk (σ := σ) (h := h) tb (fun k hk => ag k (mS k hk))
  have eo := blks_mk (σ := σ) (h := h) to (fun k hk => ag k (mL k hk))
  have lb := lvs_mk (σ := σ) (h := h) tb (fun k hk => ag k (mS k hk))
  have lo' := lvs_mk (σ := σ) (h := h) to (fun k hk => ag k (mL k hk))
  have pb := hp.flatMap_right (Rt.blks σ h)
  have pl := hp.flatMap_right (Rt.lvs σ h)
  rw [List.flatMap_append] at pb pl
  have hbo : b ≠ o := hko b ⟨d, hd⟩
  have hbt : b ≠ t := hkt b ⟨d, hd⟩
  refine ⟨_, tt, by dsimp only; rw [h2]; simp, fun k hk => ?_, fun _ => by simpa using hr, by simpa using h2hi, rfl, ?_, ?_⟩
  · simp at hk
    rcases hk with rfl | rfl
    · exact ndb
    · exact ndo
  · rw [blks_self tt]
    simp only [List.flatMap_cons, List.flatMap_nil, List.append_nil]
    rw [eb, eo]
    have big : ((t :: (b :: S.flatMap (Rt.blks σ h) ++ o :: L.flatMap (Rt.blks σ h))) ++ E).Perm (t :: o :: (Rt.blks σ (h + 1) b ++ E)) := by
      rw [List.perm_iff_count] at pb ⊢
      intro a
      have := pb a
      rw [blks_self hd]
      simp only [List.count_append, List.count_cons] at *
      omega
    have nk : ∀ x, σ x = none → x ∉ E → x ∉ Rt.blks σ (h + 1) b ++ E := fun x hx hxE hm => by
      rcases List.mem_append.1 hm with hm | hm
      · rw [blks_self hd] at hm
        rcases List.mem_cons.1 hm with e | hm
        · rw [e, hd] at hx; cases hx
        · obtain ⟨j, hj, hm⟩ := List.mem_flatMap.1 hm
          obtain ⟨d', hd'⟩ := (h3 j hj).known x hm
          rw [hd'] at hx; cases hx
      · exact hxE hm
    refine (big.nodup_iff).2 (List.nodup_cons.2 ⟨fun hm => ?_, List.nodup_cons.2 ⟨nk o ho hoE, h7⟩⟩)
    rcases List.mem_cons.1 hm with e | hm
    · exact hot e.symm
    · exact nk t ht htE hm
  · rw [lvs_self tt]
    simp only [List.flatMap_cons, List.flatMap_nil, List.append_nil]
    rw [lb, lo']
    refine List.Perm.trans ?_ h8
    rw [lvs_self hd]
    exact pl
/-- Some kids are taken out of a node that isn't the root: they are outside then. -/
theorem Up.shed {σ τ : St} {lo hi rlo h b q : Nat} {up E G S F : List Nat} {d : Pd} (hu : Up σ lo hi rlo h b (q :: up) E G) (hd : σ b = some d) (hp : (S ++ F).Perm d.kids) (hS : lo ≤ S.length) (hS2 : S.length ≤ hi) (hr : rlo ≤ lo)
    (tb : τ b = some { d with r := hull σ S, kids := S }) (tk : ∀ k, k ≠ b → τ k = σ k) :
    ∃ G2, Up τ lo hi rlo (h + 1) q up (F.flatMap (Rt.blks τ h) ++ E) G2 ∧ (F.flatMap (Rt.lvs τ h) ++ G2).Perm G ∧ ∀ k ∈ F, Nd τ lo hi h k := by
  obtain ⟨C, LC, d2, hs, h1, h2, h3, -, h5, h6, h7, h8⟩ := hu
  rw [hd] at h1
  cases h1
  have hN := h7
  rw [List.append_assoc, List.nodup_append] at h7
  obtain ⟨n1, n2, n3⟩ := h7
  rw [List.nodup_append] at n2
  obtain ⟨nC, nE, nCE⟩ := n2
  have hself := kids_not_self hd n1
  have hCb : ∀ k ∈ C, k ≠ b := fun k hk e => n3 b (self_mem σ (h + 1) b) k (List.mem_append_left _ hk) e.symm
  have hqb : q ≠ b := hCb q hs.head_mem
  have ag : ∀ k ∈ d.kids, ∀ j ∈ Rt.blks σ h k, τ j = σ j := fun k hk j hj => tk j (hself k hk j hj)
  have mS : ∀ k ∈ S, k ∈ d.kids := fun k hk => hp.subset (List.mem_append_left _ hk)
  have mF : ∀ k ∈ F, k ∈ d.kids := fun k hk => hp.subset (List.mem_append_right _ hk)
  have ndb : Nd τ lo hi (h + 1) b := Nd.mk (d := { d with r := hull σ S, kids := S }) tb h2 hS hS2 rfl (fun k hk => h3 k (mS k hk)) (fun k hk => ag k (mS k hk))
  obtain ⟨C2, LC2, d2, k1, k2, k3, k4, k5, k6, k7, k8⟩ := up_next (extra := []) (τ := τ) hs nC (fun k hk _ => tk k (hCb k hk)) (fun d' hd' => by rw [tk q hqb, hd']; simp) (fun k hk => by simp at hk; subst hk; exact ndb)
  have eb := blks_mk (σ := σ) (h := h) tb (fun k hk => ag k (mS k hk))
  have lb := lvs_mk (σ := σ) (h := h) tb (fun k hk => ag k (mS k hk))
  simp only [List.flatMap_cons, List.flatMap_nil, List.append_nil] at k7 k8
  rw [eb] at k7
  rw [lb] at k8
  have pb := hp.flatMap_right (Rt.blks σ h)
  have pl := hp.flatMap_right (Rt.lvs σ h)
  rw [List.flatMap_append] at pb pl
  have fb : F.flatMap (Rt.blks τ h) = F.flatMap (Rt.blks σ h) := flat_congr fun k hk => blks_agree h k (ag k (mF k hk))
  have fl : F.flatMap (Rt.lvs τ h) = F.flatMap (Rt.lvs σ h) := flat_congr fun k hk => lvs_agree h k (ag k (mF k hk))
  rw [fb, fl]
  refine ⟨Rt.lvs τ (h + 2) q ++ LC2, ⟨C2, LC2, d2, k1, k2, by simpa using k3, k4, fun e _ => by rw [if_pos e] at k6; exact k6, fun e => by rw [if_neg e] at k6; exact k6, by simpa using Nat.le_succ_of_le k5, ?_, List.Perm.refl _⟩, ?_, fun k hk => (h3 k (mF k hk)).agree (ag k (mF k hk))⟩
  · have big : ((Rt.blks τ (h + 2) q ++ C2) ++ (F.flatMap (Rt.blks σ h) ++ E)).Perm (Rt.blks σ (h + 1) b ++ C ++ E) := by
      rw [List.perm_iff_count] at k7 pb ⊢
      intro a
      have := k7 a
      have := pb a
      rw [blks_self hd]
      simp only [List.count_append, List.count_cons] at *
      omega
    exact (big.nodup_iff).2 hN
  · refine List.Perm.trans ?_ h8
    rw [lvs_self hd]
    rw [List.perm_iff_count] at k8 pl ⊢
    intro a
    have := k8 a
    have := pl a
    simp only [List.count_append] at *
    omega
/-- From the root downwards. -/
theorem Tree.up {σ : St} {lo hi rlo h b : Nat} {E G : List Nat} (ht : Tree σ lo hi rlo h b E G) : Up σ lo hi rlo h b [] E G ∧ ∃ d, σ b = some d ∧ d.lvl = (h : Int) ∧ d.kids.length ≤ hi := by
  obtain ⟨d, h1, h2, h3, h4, h5, h6, h7, h8⟩ := ht
  exact ⟨⟨[], [], d, .root _ _, h1, h2, h3, fun _ => h4, fun e => absurd rfl e, by omega, by simpa using h7, by simpa using h8⟩, d, h1, h2, h5⟩
theorem Up.down {σ : St} {lo hi rlo h b k : Nat} {up E G : List Nat} {d : Pd} (hu : Up σ lo hi rlo (h + 1) b up E G) (hd : σ b = some d) (hl : d.kids.length ≤ hi) (hk : k ∈ d.kids) :
    Up σ lo hi rlo h k (b :: up) E G ∧ ∃ d', σ k = some d' ∧ d'.lvl = (h : Int) ∧ d'.kids.length ≤ hi ∧ lo ≤ d'.kids.length := by
  obtain ⟨C, LC, d2, hs, h1, h2, h3, h4, h5, h6, h7, h8⟩ := hu
  rw [hd] at h1
  cases h1
  obtain ⟨dk, g1, g2, g3, g4, g5, g6⟩ := h3 k hk
  obtain ⟨pre, post, e⟩ := List.append_of_mem hk
  refine ⟨⟨_, _, dk, .step (pre := pre) (post := post) hd h2 e (fun j hj => h3 j ?_) hl ?_ hs, g1, g2, g6, fun e => absurd e (by simp), fun _ => g3, by omega, ?_, ?_⟩, dk, g1, g2, g4, g3⟩
  · rw [e]
    simp only [List.mem_append, List.mem_cons] at *
    rcases hj with hj | hj
    · exact Or.inl hj
    · exact Or.inr (Or.inr hj)
  · split
    · rename_i eu; exact h4 eu (by omega)
    · rename_i eu; exact h5 eu
  · have : (Rt.blks σ (h + 1) k ++ (b :: ((pre ++ post).flatMap (Rt.blks σ (h + 1)) ++ C)) ++ E).Perm (Rt.blks σ (h + 1 + 1) b ++ C ++ E) := by
      rw [blks_self hd, e, List.perm_iff_count]
      intro a
      simp only [List.flatMap_append, List.flatMap_cons, List.count_append, List.count_cons]
      omega
    exact (this.nodup_iff).2 h7
  · refine List.Perm.trans ?_ h8
    rw [lvs_self hd, e, List.perm_iff_count]
    intro a
    simp only [List.flatMap_append, List.flatMap_cons, List.count_append]
    omega
/-- A part is added to a node. -/
theorem Up.add {σ τ : St} {lo hi rlo h b x : Nat} {up E G : List Nat} {d : Pd} (hu : Up σ lo hi rlo h b up (Rt.blks σ h x ++ E) G) (hd : σ b = some d) (hl : d.kids.length ≤ hi) (hx : Nd σ lo hi h x)
    (tb : τ b = some { d with kids := d.kids ++ [x] }) (tk : ∀ k, k ≠ b → τ k = σ k) : Up τ lo hi rlo h b up E (Rt.lvs σ h x ++ G) := by
  obtain ⟨C, LC, d2, hs, h1, h2, h3, h4, h5, h6, h7, h8⟩ := hu
  rw [hd] at h1
  cases h1
  have hN := h7
  rw [List.append_assoc, List.nodup_append] at h7
  obtain ⟨n1, n2, n3⟩ := h7
  have hself := kids_not_self hd n1
  have hCb : ∀ k ∈ C, k ≠ b := fun k hk e => n3 b (self_mem σ (h + 1) b) k (List.mem_append_left _ hk) e.symm
  have hxb : ∀ j ∈ Rt.blks σ h x, j ≠ b := fun j hj e => n3 b (self_mem σ (h + 1) b) j (List.mem_append_right _ (List.mem_append_left _ hj)) e.symm
  have ag : ∀ k ∈ d.kids ++ [x], ∀ j ∈ Rt.blks σ h k, τ j = σ j := fun k hk j hj => tk j (by
    rcases List.mem_append.1 hk with hk | hk
    · exact hself k hk j hj
    · simp at hk; subst hk; exact hxb j hj)
  have eb := blks_mk (σ := σ) (h := h) tb ag
  have lb := lvs_mk (σ := σ) (h := h) tb ag
  refine ⟨C, LC, _, hs.agree fun k hk => tk k (hCb k hk), tb, h2, fun k hk => ?_, fun e h' => by have := h4 e h'; simp; omega, fun e => by have := h5 e; simp; omega, by simp; omega, ?_, ?_⟩
  · rcases List.mem_append.1 hk with hk' | hk'
    · exact (h3 k hk').agree (ag k hk)
    · simp at hk'; subst hk'; exact hx.agree (ag k hk)
  · rw [eb]
    have : (b :: (d.kids ++ [x]).flatMap (Rt.blks σ h) ++ C ++ E).Perm (Rt.blks σ (h + 1) b ++ C ++ (Rt.blks σ h x ++ E)) := by
      rw [blks_self hd, List.perm_iff_count]
      intro a
      simp only [List.flatMap_append, List.flatMap_cons, List.flatMap_nil, List.append_nil, List.count_append, List.count_cons]
      omega
    exact (this.nodup_iff).2 hN
  · rw [lb]
    rw [lvs_self hd] at h8
    rw [List.perm_iff_count] at h8 ⊢
    intro a
    have := h8 a
    simp only [List.flatMap_append, List.flatMap_cons, List.flatMap_nil, List.append_nil, List.count_append] at *
    omega
/-- On the way up, a kid of node b is to be lost: it lies outside already, whatever it is. -/
def Lose (σ : St) (lo hi rlo h b l : Nat) (up E G : List Nat) : Prop :=
  ∃ C LC d pre post, Spine σ lo hi rlo (h + 1) b up C LC ∧ σ b = some d ∧ d.lvl = (h : Int) ∧ d.kids = pre ++ l :: post ∧ (∀ k ∈ pre ++ post, Nd σ lo hi h k) ∧ (up = [] → 1 ≤ h → rlo ≤ d.kids.length) ∧ (up ≠ [] → lo ≤ d.kids.length) ∧ d.kids.length ≤ hi ∧
    l ∉ b :: ((pre ++ post).flatMap (Rt.blks σ h) ++ C) ∧ (b :: ((pre ++ post).flatMap (Rt.blks σ h) ++ C) ++ E).Nodup ∧ ((pre ++ post).flatMap (Rt.lvs σ h) ++ LC).Perm G
/-- A kid of a sound node, to be lost. -/
theorem Up.lose {σ : St} {lo hi rlo h b l : Nat} {up E G : List Nat} {d : Pd} (hu : Up σ lo hi rlo h b up E G) (hd : σ b = some d) (hl : d.kids.length ≤ hi) (hk : l ∈ d.kids) :
    ∃ G2, Lose σ lo hi rlo h b l up (Rt.blks σ h l ++ E) G2 ∧ (Rt.lvs σ h l ++ G2).Perm G := by
  obtain ⟨C, LC, d2, hs, h1, h2, h3, h4, h5, h6, h7, h8⟩ := hu
  rw [hd] at h1
  cases h1
  obtain ⟨pre, post, e⟩ := List.append_of_mem hk
  have hN : ((b :: ((pre ++ post).flatMap (Rt.blks σ h) ++ C)) ++ (Rt.blks σ h l ++ E)).Nodup := by
    have : ((b :: ((pre ++ post).flatMap (Rt.blks σ h) ++ C)) ++ (Rt.blks σ h l ++ E)).Perm (Rt.blks σ (h + 1) b ++ C ++ E) := by
      rw [blks_self hd, e, List.perm_iff_count]
      intro a
      simp only [List.flatMap_append, List.flatMap_cons, List.count_append, List.count_cons]
      omega
    exact (this.nodup_iff).2 h7
  refine ⟨(pre ++ post).flatMap (Rt.lvs σ h) ++ LC, ⟨C, LC, d, pre, post, hs, hd, h2, e, fun k hk => h3 k ?_, h4, h5, hl, ?_, hN, List.Perm.refl _⟩, ?_⟩
  · rw [e]
    simp only [List.mem_append, List.mem_cons] at *
    rcases hk with hk | hk
    · exact Or.inl hk
    · exact Or.inr (Or.inr hk)
  · intro hm
    exact (List.nodup_append.1 hN).2.2 l hm l (List.mem_append_left _ (self_mem σ h l)) rfl
  · refine List.Perm.trans ?_ h8
    rw [lvs_self hd, e, List.perm_iff_count]
    intro a
    simp only [List.flatMap_append, List.flatMap_cons, List.count_append]
    omega
/-- What is left of the kids. -/
theorem lose_kids {l : Nat} {ks pre post : List Nat} (e : ks = pre ++ l :: post) (hp : l ∉ pre) (hq : l ∉ post) : ks.filter (fun k => k != l) = pre ++ post := by
  rw [e, List.filter_append, List.filter_cons]
  simp only [bne_self_eq_false, Bool.false_eq_true, if_false]
  congr 1
  · exact List.filter_eq_self.2 fun k hk => by simp; rintro rfl; exact hp hk
  · exact List.filter_eq_self.2 fun k hk => by simp; rintro rfl; exact hq hk
section
variable {σ τ : St} {lo hi rlo h b l : Nat} {up E G : List Nat} {d : Pd}
theorem Lose.kids (hz : Lose σ lo hi rlo h b l up E G) (hd : σ b = some d) : ∃ pre post, d.kids = pre ++ l :: post ∧ d.kids.filter (fun k => k != l) = pre ++ post := by
  obtain ⟨C, LC, d2, pre, post, hs, h1, h2, h3, h4, h5, h6, h7, h8, h9, h10⟩ := hz
  rw [hd] at h1
  cases h1
  have hn : ∀ k ∈ pre ++ post, k ≠ l := fun k hk e => h8 (e ▸ List.mem_cons_of_mem _ (List.mem_append_left _ (List.mem_flatMap.2 ⟨k, hk, self_mem σ h k⟩)))
  exact ⟨pre, post, h3, lose_kids h3 (fun hm => hn l (List.mem_append_left _ hm) rfl) (fun hm => hn l (List.mem_append_right _ hm) rfl)⟩
/-- Enough are left, or it is the root: the way up goes on with nothing to lose. -/
theorem Lose.keep (hz : Lose σ lo hi rlo h b l up E G) (hd : σ b = some d) (hn : up ≠ [] → lo ≤ (d.kids.filter (fun k => k != l)).length) (hr : up = [] → 1 ≤ h → rlo + 1 ≤ d.kids.length) :
    Up (upd σ b { d with r := hull σ (d.kids.filter (fun k => k != l)), kids := d.kids.filter (fun k => k != l) }) lo hi rlo h b up E G := by
  obtain ⟨pre', post', -, ef⟩ := hz.kids hd
  obtain ⟨C, LC, d2, pre, post, hs, h1, h2, h3, h4, h5, h6, h7, h8, h9, h10⟩ := hz
  rw [hd] at h1
  cases h1
  have hn' : ∀ k ∈ pre ++ post, k ≠ l := fun k hk e => h8 (e ▸ List.mem_cons_of_mem _ (List.mem_append_left _ (List.mem_flatMap.2 ⟨k, hk, self_mem σ h k⟩)))
  have ek : d.kids.filter (fun k => k != l) = pre ++ post := lose_kids h3 (fun hm => hn' l (List.mem_append_left _ hm) rfl) (fun hm => hn' l (List.mem_append_right _ hm) rfl)
  rw [ek] at hn ⊢
  have hN := h9
  rw [List.cons_append, List.nodup_cons] at h9
  have hb : ∀ j ∈ (pre ++ post).flatMap (Rt.blks σ h) ++ C, j ≠ b := fun j hj e => h9.1 (List.mem_append_left _ (e ▸ hj))
  have ag : ∀ k ∈ pre ++ post, ∀ j ∈ Rt.blks σ h k, upd σ b { d with r := hull σ (pre ++ post), kids := pre ++ post } j = σ j := fun k hk j hj => upd_other _ _ (hb j (List.mem_append_left _ (List.mem_flatMap.2 ⟨k, hk, hj⟩)))
  have eb := blks_mk (σ := σ) (h := h) (upd_same σ b { d with r := hull σ (pre ++ post), kids := pre ++ post }) ag
  have lb := lvs_mk (σ := σ) (h := h) (upd_same σ b { d with r := hull σ (pre ++ post), kids := pre ++ post }) ag
  have len : d.kids.length = (pre ++ post).length + 1 := by rw [h3]; simp; omega
  refine ⟨C, LC, _, hs.agree fun k hk => upd_other _ _ (hb k (List.mem_append_right _ hk)), upd_same _ _ _, h2, fun k hk => (h4 k hk).agree (ag k hk), fun e h' => by have := hr e h'; dsimp only; omega, hn, by dsimp only; omega, ?_, ?_⟩
  · rw [eb]; simpa using hN
  · rw [lb]; exact h10
/-- Too few are left: they are put in anew, and the node itself is to be lost. -/
theorem Lose.drop {q : Nat} (hz : Lose σ lo hi rlo h b l (q :: up) E G) (hd : σ b = some d) (tb : ∃ d', τ b = some d') (tk : ∀ k, k ≠ b → τ k = σ k) :
    ∃ G2, Lose τ lo hi rlo (h + 1) q b up (b :: ((d.kids.filter (fun k => k != l)).flatMap (Rt.blks τ h) ++ E)) G2 ∧ ((d.kids.filter (fun k => k != l)).flatMap (Rt.lvs τ h) ++ G2).Perm G ∧ ∀ k ∈ d.kids.filter (fun k => k != l), Nd τ lo hi h k := by
  obtain ⟨C, LC, d2, pre, post, hs, h1, h2, h3, h4, h5, h6, h7, h8, h9, h10⟩ := hz
  rw [hd] at h1
  cases h1
  have hn' : ∀ k ∈ pre ++ post, k ≠ l := fun k hk e => h8 (e ▸ List.mem_cons_of_mem _ (List.mem_append_left _ (List.mem_flatMap.2 ⟨k, hk, self_mem σ h k⟩)))
  have ek : d.kids.filter (fun k => k != l) = pre ++ post := lose_kids h3 (fun hm => hn' l (List.mem_append_left _ hm) rfl) (fun hm => hn' l (List.mem_append_right _ hm) rfl)
  rw [ek]
  have hN := h9
  rw [List.cons_append, List.nodup_cons] at h9
  have hb : ∀ j ∈ (pre ++ post).flatMap (Rt.blks σ h) ++ C, j ≠ b := fun j hj e => h9.1 (List.mem_append_left _ (e ▸ hj))
  have ag : ∀ k ∈ pre ++ post, ∀ j ∈ Rt.blks σ h k, τ j = σ j := fun k hk j hj => tk j (hb j (List.mem_append_left _ (List.mem_flatMap.2 ⟨k, hk, hj⟩)))
  have fb : (pre ++ post).flatMap (Rt.blks τ h) = (pre ++ post).flatMap (Rt.blks σ h) := flat_congr fun k hk => blks_agree h k (ag k hk)
  have fl : (pre ++ post).flatMap (Rt.lvs τ h) = (pre ++ post).flatMap (Rt.lvs σ h) := flat_congr fun k hk => lvs_agree h k (ag k hk)
  have hst := hs.agree (τ := τ) fun k hk => tk k (hb k (List.mem_append_right _ hk))
  rw [fb, fl]
  cases hst with
  | @step _ _ _ dq pr po _ C2 LC2 g1 g2 g3 g4 g5 g6 g7 =>
    refine ⟨(pr ++ po).flatMap (Rt.lvs τ (h + 1)) ++ LC2, ⟨C2, LC2, dq, pr, po, g7, g1, by simpa using g2, g3, g4, fun e _ => by rw [if_pos e] at g6; exact g6, fun e => by rw [if_neg e] at g6; exact g6, g5, ?_, ?_, List.Perm.refl _⟩, ?_, fun k hk => (h4 k hk).agree (ag k hk)⟩
    · intro hm
      exact h9.1 (List.mem_append_left _ (List.mem_append_right _ hm))
    · have : ((q :: ((pr ++ po).flatMap (Rt.blks τ (h + 1)) ++ C2)) ++ (b :: ((pre ++ post).flatMap (Rt.blks σ h) ++ E))).Perm ((b :: ((pre ++ post).flatMap (Rt.blks σ h) ++ q :: ((pr ++ po).flatMap (Rt.blks τ (h + 1)) ++ C2))) ++ E) := by
        rw [List.perm_iff_count]
        intro a
        simp only [List.count_append, List.count_cons]
        omega
      exact (this.nodup_iff).2 hN
    · exact h10
end
/-- What is wanted of a sound part: all its items that are. P: of a rectangle; where it is of one it is of all that hold it. -/
def holdsR (a b : R4) : Prop := a.x1 ≤ b.x1 ∧ a.y1 ≤ b.y1 ∧ b.x2 ≤ a.x2 ∧ b.y2 ≤ a.y2
theorem holdsR_refl (a : R4) : holdsR a a := ⟨Int.le_refl _, Int.le_refl _, Int.le_refl _, Int.le_refl _⟩
theorem holdsR_trans {a b c : R4} (h : holdsR a b) (g : holdsR b c) : holdsR a c := ⟨Int.le_trans h.1 g.1, Int.le_trans h.2.1 g.2.1, Int.le_trans g.2.2.1 h.2.2.1, Int.le_trans g.2.2.2 h.2.2.2⟩
theorem join_left (a b : R4) : holdsR (joinR a b) a := by
  unfold holdsR joinR mn mx
  refine ⟨?_, ?_, ?_, ?_⟩ <;> dsimp only <;> split <;> omega
theorem join_right (a b : R4) : holdsR (joinR a b) b := by
  unfold holdsR joinR mn mx
  refine ⟨?_, ?_, ?_, ?_⟩ <;> dsimp only <;> split <;> omega
theorem fold_holds : ∀ (l : List R4) (a : R4), holdsR (l.foldl joinR a) a ∧ ∀ r ∈ l, holdsR (l.foldl joinR a) r
  | [], a => ⟨holdsR_refl a, fun r hr => by simp at hr⟩
  | x :: l, a => by
    obtain ⟨h1, h2⟩ := fold_holds l (joinR a x)
    refine ⟨holdsR_trans h1 (join_left a x), fun r hr => ?_⟩
    rcases List.mem_cons.1 hr with rfl | hr
    · exact holdsR_trans h1 (join_right a r)
    · exact h2 r hr
theorem hullF_holds {l : List R4} : ∀ r ∈ l, holdsR (hullF l) r := by
  cases l with
  | nil => intro r hr; simp at hr
  | cons x t => exact (fold_holds (x :: t) x).2
theorem Nd.holds {σ : St} {lo hi : Nat} : ∀ {h b : Nat}, Nd σ lo hi h b → ∀ k ∈ Rt.lvs σ h b, holdsR (rOf σ b) (rOf σ k)
  | 0, b, _, k, hk => by simp [Rt.lvs] at hk; subst hk; exact holdsR_refl _
  | h + 1, b, ⟨d, h1, _, _, _, h5, h6⟩, k, hk => by
    rw [lvs_self h1] at hk
    obtain ⟨j, hj, hk⟩ := List.mem_flatMap.1 hk
    refine holdsR_trans ?_ ((h6 j hj).holds k hk)
    rw [rOf_some h1, h5]
    exact hullF_holds _ (List.mem_map.2 ⟨j, hj, rfl⟩)
/-- As find goes. -/
def fnd (σ : St) (P : R4 → Bool) : Nat → Nat → List Nat
  | 0, b => if P (rOf σ b) then [b] else []
  | h + 1, b => if P (rOf σ b) then (kidsOf σ b).flatMap (fnd σ P h) else []
theorem flat_filter {f : Nat → List Nat} {p : Nat → Bool} : ∀ (l : List Nat), (l.flatMap f).filter p = l.flatMap fun k => (f k).filter p
  | [] => rfl
  | a :: l => by rw [List.flatMap_cons, List.flatMap_cons, List.filter_append, flat_filter l]
theorem Nd.fnd {σ : St} {lo hi : Nat} {P : R4 → Bool} (hP : ∀ a b, holdsR a b → P b = true → P a = true) : ∀ {h b : Nat}, Nd σ lo hi h b → Rt.fnd σ P h b = (Rt.lvs σ h b).filter fun k => P (rOf σ k)
  | 0, b, _ => by
    simp only [Rt.fnd, Rt.lvs, List.filter_cons, List.filter_nil]
  | h + 1, b, hn => by
    have hh := hn.holds
    obtain ⟨d, h1, _, _, _, h5, h6⟩ := hn
    simp only [Rt.fnd, kidsOf_some h1]
    rw [lvs_self h1] at hh ⊢
    split
    · rw [flat_filter]
      exact flat_congr fun k hk => (h6 k hk).fnd hP
    · rename_i hp
      refine (List.filter_eq_nil_iff.2 fun k hk => ?_).symm
      intro e
      exact hp (hP _ _ (hh k hk) e)
/-- How many items there are at least: so a tree is not high. -/
theorem Nd.high {σ : St} {lo hi : Nat} (h2 : 2 ≤ lo) : ∀ {h b : Nat}, Nd σ lo hi h b → h + 1 ≤ (Rt.lvs σ h b).length
  | 0, b, _ => by simp [Rt.lvs]
  | h + 1, b, ⟨d, h1, _, h3, _, _, h6⟩ => by
    rw [lvs_self h1]
    match hk : d.kids, h3 with
    | [], h3 => simp at h3; omega
    | [_], h3 => simp at h3; omega
    | x :: y :: t, _ =>
      rw [hk] at h6
      have a := (h6 x (by simp)).high h2
      have c := (h6 y (by simp)).high h2
      simp only [List.flatMap_cons, List.length_append]
      omega
theorem Tree.high {σ : St} {lo hi rlo h b : Nat} {E G : List Nat} (h2 : 2 ≤ lo) (h1 : 1 ≤ rlo) (ht : Tree σ lo hi rlo h b E G) : h ≤ G.length := by
  obtain ⟨d, k1, k2, k3, k4, k5, k6, k7, k8⟩ := ht
  rcases Nat.eq_zero_or_pos h with rfl | hp
  · exact Nat.zero_le _
  · rw [← k8.length_eq, lvs_self k1]
    have := k4 hp
    match hk : d.kids, this with
    | [], h3 => simp at h3; omega
    | x :: t, _ =>
      rw [hk] at k3
      have a := (k3 x (by simp)).high h2
      simp only [List.flatMap_cons, List.length_append]
      omega
end Go.Proofs.YtobkgamcjfjghaaGreat.Rt
namespace Go.Proofs.YtobkgamcjfjghaaGreat.Rt
open Go.RowKit Go.Proofs.YtobkgamcjfjghaaGreat.Pt Go.Proofs.YtobkgamcjfjghaaGreat.Rc Go.Proofs.YtobkgamcjfjghaaGreat.Rs
set_option linter.unusedVariables false
set_option linter.unusedSimpArgs false

/-- A call that leaves alone all old blocks but those of X. -/
structure Ke (X : Nat → Prop) (w w' : World) : Prop where
  os : w'.os = w.os
  tape : w'.tape = w.tape
  output : w'.output = w.output
  size : w.heap.size ≤ w'.heap.size
  block : ∀ k, k < w.heap.size → ¬ X k → w'.heap[k]? = w.heap[k]?
section
variable {X Y : Nat → Prop} {a b c : World}
theorem Ke.refl (X : Nat → Prop) (w : World) : Ke X w w := ⟨rfl, rfl, rfl, Nat.le_refl _, fun _ _ _ => rfl⟩
theorem Ke.trans (h : Ke X a b) (k : Ke Y b c) (hY : ∀ g, g < a.heap.size → Y g → X g) : Ke X a c :=
  ⟨k.os.trans h.os, k.tape.trans h.tape, k.output.trans h.output, Nat.le_trans h.size k.size, fun g hg hx => (k.block g (Nat.lt_of_lt_of_le hg h.size) (fun hy => hx (hY g hg hy))).trans (h.block g hg hx)⟩
theorem Ke.of_below (h : Below a.heap.size a b) : Ke X a b := ⟨h.os, h.tape, h.output, h.size, fun k hk _ => h.block k hk⟩
theorem Ke.below (h : Ke X a b) (k : Below b.heap.size b c) : Ke X a c := h.trans (Y := fun _ => False) (Ke.of_below k) fun _ _ h => h.elim
theorem Ke.set (h : Ke X a b) (p j : Nat) (v : Value) (hp : X p ∨ a.heap.size ≤ p) : Ke X a (b.setCell ⟨p, j, none⟩ v) :=
  ⟨h.os, h.tape, h.output, by simpa using h.size, fun k hk hx => (Below.heap_setCell _ _ _ _ (by
    intro e
    have e' : k = p := e
    rcases hp with hp | hp
    · exact hx (e' ▸ hp)
    · omega)).trans (h.block k hk hx)⟩
theorem Ke.grown {r : Option Nat} (h : Ke X a b) (hg : b.grownBy c r) (hr : ∀ k, r = some k → X k ∨ a.heap.size ≤ k) : Ke X a c :=
  ⟨hg.os.trans h.os, hg.tape.trans h.tape, hg.output.trans h.output, Nat.le_trans h.size hg.size, fun k hk hx => (hg.block k (Nat.lt_of_lt_of_le hk h.size) (by
    intro e
    rcases hr k e.symm with h' | h'
    · exact hx h'
    · omega)).trans (h.block k hk hx)⟩
theorem Ke.drew (h : Ke X a b) : Ke X a b.drew := ⟨h.os, h.tape, h.output, h.size, h.block⟩
theorem Ke.mono (h : Ke X a b) (hy : ∀ g, g < a.heap.size → X g → Y g) : Ke Y a b := ⟨h.os, h.tape, h.output, h.size, fun k hk hx => h.block k hk fun e => hx (hy k hk e)⟩
theorem Ke.old (h : Ke X a b) {z : Nat} (hz : z ≤ a.heap.size) (hx : ∀ k, k < z → ¬ X k) : Below z a b := ⟨h.os, h.tape, h.output, h.size, fun k hk => h.block k (by omega) (hx k hk)⟩
end
def ptr (b : Nat) : Value := .pointer (some ⟨b, 0, none⟩)
def pdC (d : Pd) (s : Value) : Array Value := #[.int .i64 d.lvl, .int .i64 d.r.x1, .int .i64 d.r.y1, .int .i64 d.r.x2, .int .i64 d.r.y2, .int .i64 d.id, s]
/-- A part in block b, its kids' row in s. -/
structure PAt (W : World) (b : Nat) (d : Pd) (s : Value) : Prop where
  obj : W.heap[b]? = some (.cells (pdC d s) 75 (0, 0))
  row : W.ownsRow 0 61 1 s d.kids.length (d.kids.map ptr)
section
variable {W W' : World} {b : Nat} {d : Pd} {s : Value}
theorem PAt.lt (h : PAt W b d s) : b < W.heap.size := (Array.getElem?_eq_some_iff.1 h.obj).1
/-- The seven cells. -/
theorem PAt.cells (h : PAt W b d s) : W.cell? ⟨b, 0, none⟩ = some (.int .i64 d.lvl) ∧ W.cell? ⟨b, 1, none⟩ = some (.int .i64 d.r.x1) ∧ W.cell? ⟨b, 2, none⟩ = some (.int .i64 d.r.y1) ∧ W.cell? ⟨b, 3, none⟩ = some (.int .i64 d.r.x2) ∧ W.cell? ⟨b, 4, none⟩ = some (.int .i64 d.r.y2) ∧ W.cell? ⟨b, 5, none⟩ = some (.int .i64 d.id) ∧ W.cell? ⟨b, 6, none⟩ = some s := by
  have h1 := h.obj
  refine ⟨?_, ?_, ?_, ?_, ?_, ?_, ?_⟩ <;> simp [World.cell?, h1, pdC]
theorem PAt.soft (h : PAt W b d s) : ∀ o, W.frozen? ⟨b, o, none⟩ = false := by
  have h1 := h.obj
  intro o
  simp [World.frozen?, h1]
/-- The kids' row: its value, its cells. -/
theorem PAt.kids (h : PAt W b d s) : ∃ (A : Option Addr) (c : Nat), s = .slice A d.kids.length c ∧ d.kids.length ≤ c ∧ c ≤ maxLen ∧ (0 < d.kids.length → ∃ g, A = some ⟨g, 0, none⟩ ∧ g < W.heap.size ∧ ∀ (i : Nat) (hi : i < d.kids.length), W.cell? ⟨g, i, none⟩ = some (ptr d.kids[i])) := by
  have h1 := h.row
  rcases h1.2 with ⟨rfl, e⟩ | ⟨g, c, cur, rfl, _, hh, hc, hm, hs, _⟩
  · exact ⟨none, 0, by rw [e], by omega, Nat.zero_le _, fun h0 => by omega⟩
  · refine ⟨some ⟨g, 0, none⟩, c, rfl, hc, hm, fun _ => ⟨g, rfl, (Array.getElem?_eq_some_iff.1 hh).1, fun i hi => ?_⟩⟩
    have := h1.cellAt i (by omega)
    rw [this, List.getElem?_map, List.getElem?_eq_getElem hi]
    rfl
theorem PAt.rowBlock (h : PAt W b d s) {g : Nat} (hg : s.ownBlock = some g) : ∃ cur, W.heap[g]? = some (.cells cur 61 (0, 0)) := by
  rcases h.row.2 with ⟨rfl, e⟩ | ⟨g', c, cur, rfl, _, hh, _⟩
  · simp [Value.ownBlock] at hg
  · simp [Value.ownBlock] at hg
    subst hg
    exact ⟨cur, hh⟩
theorem PAt.same (h : PAt W b d s) (hb : W'.heap[b]? = W.heap[b]?) (hr : ∀ g, s.ownBlock = some g → W'.heap[g]? = W.heap[g]?) : PAt W' b d s := by
  refine ⟨hb.trans h.obj, h.row.1, ?_⟩
  rcases h.row.2 with ⟨e, e2⟩ | ⟨g, c, cur, rfl, k1, k2, k3⟩
  · exact Or.inl ⟨e, e2⟩
  · exact Or.inr ⟨g, c, cur, rfl, k1, (hr g rfl).trans k2, k3⟩
end
theorem PAt.later {W W' : World} {b : Nat} {d : Pd} {s : Value} (h : PAt W b d s) (hb : Below W.heap.size W W') : PAt W' b d s := h.same (hb.block b h.lt) fun g hg => by
  obtain ⟨cur, hc⟩ := h.rowBlock hg
  exact hb.block g (Array.getElem?_eq_some_iff.1 hc).1
theorem PAt.drew {W : World} {b : Nat} {d : Pd} {s : Value} (h : PAt W b d s) : PAt W.drew b d s := ⟨h.obj, h.row⟩
theorem PAt.far {W : World} {b n : Nat} {d : Pd} {s : Value} (h : PAt W b d s) (hb : b ≠ n) (hs : s.ownBlock ≠ some n) (i : Nat) (v : Value) : PAt (W.setCell ⟨n, i, none⟩ v) b d s :=
  h.same (Below.heap_setCell _ _ _ _ hb) fun g hg => Below.heap_setCell _ _ _ _ (fun e => hs (by rw [hg]; exact congrArg some e))
/-- All parts of a store; V: where their kids' rows are. -/
structure Mem (W : World) (σ : St) (V : Nat → Value) : Prop where
  part : ∀ b d, σ b = some d → PAt W b d (V b)
  apart : ∀ b c d e g, σ b = some d → σ c = some e → (V b).ownBlock = some g → (V c).ownBlock = some g → b = c
def Foot (σ : St) (V : Nat → Value) (k : Nat) : Prop := (∃ d, σ k = some d) ∨ ∃ b d, σ b = some d ∧ (V b).ownBlock = some k
section
variable {W W' : World} {σ : St} {V : Nat → Value}
theorem Mem.foot_lt (h : Mem W σ V) {k : Nat} (hk : Foot σ V k) : k < W.heap.size := by
  rcases hk with ⟨d, hd⟩ | ⟨b, d, hd, hg⟩
  · exact (h.part k d hd).lt
  · obtain ⟨cur, hc⟩ := (h.part b d hd).rowBlock hg
    exact (Array.getElem?_eq_some_iff.1 hc).1
theorem Mem.keep (h : Mem W σ V) {X : Nat → Prop} (hk : Ke X W W') (hX : ∀ k, Foot σ V k → ¬ X k) : Mem W' σ V :=
  ⟨fun b d hb => (h.part b d hb).same (hk.block b (h.part b d hb).lt (hX b (Or.inl ⟨d, hb⟩))) fun g hg => hk.block g (h.foot_lt (Or.inr ⟨b, d, hb, hg⟩)) (hX g (Or.inr ⟨b, d, hb, hg⟩)), h.apart⟩
theorem Mem.later (h : Mem W σ V) (hb : Below W.heap.size W W') : Mem W' σ V := h.keep (X := fun _ => False) (Ke.of_below hb) fun _ _ h => h
theorem Mem.alloc (h : Mem W σ V) (o : Obj) : Mem (W.alloc o) σ V := h.later ((Below.refl _ _).alloc (Nat.le_refl _) o)
theorem Mem.drew (h : Mem W σ V) : Mem W.drew σ V := h.keep (X := fun _ => False) (Ke.drew (Ke.refl _ _)) fun _ _ h => h
/-- Parts and rows are of two types: no block is both. -/
theorem Mem.tags (h : Mem W σ V) {b c : Nat} {d e : Pd} (hb : σ b = some d) (hc : σ c = some e) : (V c).ownBlock ≠ some b := by
  intro hg
  obtain ⟨cur, hh⟩ := (h.part c e hc).rowBlock hg
  have := (h.part b d hb).obj
  rw [this] at hh
  simp at hh
def updV (V : Nat → Value) (b : Nat) (s : Value) : Nat → Value := fun k => if k = b then s else V k
theorem updV_same (V : Nat → Value) (b : Nat) (s : Value) : updV V b s b = s := by simp [updV]
theorem updV_other (V : Nat → Value) {b k : Nat} (s : Value) (h : k ≠ b) : updV V b s k = V k := by simp [updV, h]
/-- A part is another one now; its row may be another one. -/
theorem Mem.put (h : Mem W σ V) {b : Nat} {d d' : Pd} {s : Value} (hb : σ b = some d) (hp : PAt W' b d' s) (hk : Ke (fun k => k = b ∨ (V b).ownBlock = some k) W W')
    (ha : ∀ c e g, σ c = some e → c ≠ b → (V c).ownBlock = some g → s.ownBlock ≠ some g) : Mem W' (upd σ b d') (updV V b s) := by
  have oth : ∀ c e, σ c = some e → c ≠ b → PAt W' c e (V c) := fun c e hc hcb => (h.part c e hc).same (hk.block c (h.part c e hc).lt (fun hx => hx.elim hcb (h.tags hc hb))) fun g hg => hk.block g (h.foot_lt (Or.inr ⟨c, e, hc, hg⟩)) fun hx => hx.elim (fun e2 => h.tags hb hc (e2 ▸ hg)) fun hg2 => hcb (h.apart c b e d g hc hb hg hg2)
  refine ⟨fun c e hc => ?_, fun c1 c2 e1 e2 g h1 h2 g1 g2 => ?_⟩
  · by_cases hcb : c = b
    · subst hcb
      rw [upd_same] at hc
      cases hc
      rw [updV_same]
      exact hp
    · rw [upd_other _ _ hcb] at hc
      rw [updV_other _ _ hcb]
      exact oth c e hc hcb
  · by_cases hb1 : c1 = b
    · by_cases hb2 : c2 = b
      · rw [hb1, hb2]
      · rw [hb1, updV_same] at g1
        rw [updV_other _ _ hb2] at g2
        rw [upd_other _ _ hb2] at h2
        exact absurd g1 (ha c2 e2 g h2 hb2 g2)
    · by_cases hb2 : c2 = b
      · rw [hb2, updV_same] at g2
        rw [updV_other _ _ hb1] at g1
        rw [upd_other _ _ hb1] at h1
        exact absurd g2 (ha c1 e1 g h1 hb1 g1)
      · rw [updV_other _ _ hb1] at g1
        rw [updV_other _ _ hb2] at g2
        rw [upd_other _ _ hb1] at h1
        rw [upd_other _ _ hb2] at h2
        exact h.apart c1 c2 e1 e2 g h1 h2 g1 g2
/-- A new part. -/
theorem Mem.new (h : Mem W σ V) {b : Nat} {d' : Pd} {s : Value} (hb : σ b = none) (hp : PAt W' b d' s) (hk : Below W.heap.size W W')
    (ha : ∀ c e g, σ c = some e → (V c).ownBlock = some g → s.ownBlock ≠ some g) : Mem W' (upd σ b d') (updV V b s) := by
  have hm := h.later hk
  have hne : ∀ {c : Nat} {e : Pd}, σ c = some e → c ≠ b := fun hc e2 => by rw [e2, hb] at hc; cases hc
  refine ⟨fun c e hc => ?_, fun c1 c2 e1 e2 g h1 h2 g1 g2 => ?_⟩
  · by_cases hcb : c = b
    · subst hcb
      rw [upd_same] at hc
      cases hc
      rw [updV_same]
      exact hp
    · rw [upd_other _ _ hcb] at hc
      rw [updV_other _ _ hcb]
      exact hm.part c e hc
  · by_cases hb1 : c1 = b
    · by_cases hb2 : c2 = b
      · rw [hb1, hb2]
      · rw [hb1, updV_same] at g1
        rw [updV_other _ _ hb2] at g2
        rw [upd_other _ _ hb2] at h2
        exact absurd g1 (ha c2 e2 g h2 g2)
    · by_cases hb2 : c2 = b
      · rw [hb2, updV_same] at g2
        rw [updV_other _ _ hb1] at g1
        rw [upd_other _ _ hb1] at h1
        exact absurd g2 (ha c1 e1 g h1 g1)
      · rw [updV_other _ _ hb1] at g1
        rw [updV_other _ _ hb2] at g2
        rw [upd_other _ _ hb1] at h1
        rw [upd_other _ _ hb2] at h2
        exact h.apart c1 c2 e1 e2 g h1 h2 g1 g2
/-- A block's cells, one written. -/
theorem set_obj {b : Nat} {cs : Array Value} {t : TypeId} (h : W.heap[b]? = some (.cells cs t (0, 0))) (i : Nat) (v : Value) : (W.setCell ⟨b, i, none⟩ v).heap[b]? = some (.cells (cs.setIfInBounds i v) t (0, 0)) := by
  simp [World.setCell, h, Array.getElem?_modify]
/-- A part's rectangle, written. -/
def setR (W : World) (b : Nat) (r : R4) : World := (((W.setCell ⟨b, 1, none⟩ (.int .i64 r.x1)).setCell ⟨b, 2, none⟩ (.int .i64 r.y1)).setCell ⟨b, 3, none⟩ (.int .i64 r.x2)).setCell ⟨b, 4, none⟩ (.int .i64 r.y2)
theorem Ke.setR {X : Nat → Prop} {a : World} (h : Ke X a W) {b : Nat} (r : R4) (hb : X b ∨ a.heap.size ≤ b) : Ke X a (Rt.setR W b r) := (((h.set b 1 _ hb).set b 2 _ hb).set b 3 _ hb).set b 4 _ hb
theorem PAt.setR {b : Nat} {d : Pd} {s : Value} (h : PAt W b d s) (hs : s.ownBlock ≠ some b) (r : R4) : PAt (Rt.setR W b r) b { d with r := r } s := by
  refine ⟨?_, ?_⟩
  · have h1 := set_obj h.obj 1 (.int .i64 r.x1)
    have h2 := set_obj h1 2 (.int .i64 r.y1)
    have h3 := set_obj h2 3 (.int .i64 r.x2)
    have h4 := set_obj h3 4 (.int .i64 r.y2)
    rw [show Rt.setR W b r = _ from rfl]
    unfold Rt.setR
    rw [h4]
    simp [pdC]
  · refine ⟨h.row.1, ?_⟩
    rcases h.row.2 with ⟨e, e2⟩ | ⟨g, c, cur, rfl, k1, k2, k3⟩
    · exact Or.inl ⟨e, e2⟩
    · have hg : g ≠ b := fun e => hs (by rw [e]; rfl)
      refine Or.inr ⟨g, c, cur, rfl, k1, ?_, k3⟩
      unfold Rt.setR
      rw [Below.heap_setCell _ _ _ _ hg, Below.heap_setCell _ _ _ _ hg, Below.heap_setCell _ _ _ _ hg, Below.heap_setCell _ _ _ _ hg]
      exact k2
end
theorem PAt.farR {W : World} {b n : Nat} {d : Pd} {s : Value} (h : PAt W b d s) (hb : b ≠ n) (hs : s.ownBlock ≠ some n) (r : R4) : PAt (Rt.setR W n r) b d s := (((h.far hb hs 1 _).far hb hs 2 _).far hb hs 3 _).far hb hs 4 _
theorem hullF_snoc : ∀ {l : List R4} (x : R4), l ≠ [] → hullF (l ++ [x]) = joinR (hullF l) x
  | [], _, h => absurd rfl h
  | r :: t, x, _ => by
    show ((r :: (t ++ [x])).foldl joinR r) = _
    rw [show r :: (t ++ [x]) = (r :: t) ++ [x] from rfl, List.foldl_append]
    rfl
end Go.Proofs.YtobkgamcjfjghaaGreat.Rt
