/-
  Contract of Tree.add: a part is laid into the tree; what was taken out is told. What is no part of the tree is left as it was.
-/
import Derived.Test.YtobkgamcjfjghaaGreatMp13
import Derived.Deep.AppendLies
import Derived.Deep.Cut
import Derived.Deep.CutRange
import Derived.Lib.SmallJoins
namespace Go.Proofs.YtobkgamcjfjghaaGreat.Rt
open Go.RowKit Go.Joins Go.Proofs.YtobkgamcjfjghaaGreat.Pt Go.Proofs.YtobkgamcjfjghaaGreat.Rc Go.Proofs.YtobkgamcjfjghaaGreat.Rs
set_option linter.unusedVariables false
set_option linter.unusedSimpArgs false
set_option maxHeartbeats 4000000
set_option maxRecDepth 100000
/-- What add tells: the parts that were taken out; they are to be put in anew. -/
def AddE (rl o t mb f H : Nat) (E G0 : List Nat) (w : World) (σ0 : St) (V0 : Nat → Value) (e : Ending) (w' : World) : Prop :=
  ∃ (σ : St) (V : Nat → Value) (A G : List Nat) (rt H' : Nat) (s : Value), e = .returned s ∧ Stp t w σ0 V0 w' σ V ∧ TAt w' t o mb rt ∧ Kps σ0 σ E ∧ w'.ownsRow w.heap.size 61 1 s A.length (A.map ptr) ∧ (∀ g, s.ownBlock = some g → ¬ Foot σ V g) ∧
    (A = [] ∨ (A.length = manyN o ∧ f < H)) ∧ (∀ k ∈ A, Nd σ (leastN o) o f k) ∧ (A.flatMap (lvs σ f) ++ G).Perm G0 ∧ H ≤ H' ∧ Tree σ (leastN o) o rl H' rt (A.flatMap (blks σ f) ++ E) G
def AdR (rl o t mb hx f root H : Nat) (P E G0 : List Nat) (gp : Nat) (w0 : World) (σ0 : St) (V0 : Nat → Value) (v7 v31 : Value) (wr : World) : Prop := ∃ j : Nat, v31 = .int .i64 (j : Int) ∧ Nx rl o t mb hx f root H P E G0 gp w0 σ0 V0 j v7 wr
theorem Nx.name {rl o t mb hx f root H j gp : Nat} {P E G0 : List Nat} {w0 wr : World} {σ0 : St} {V0 : Nat → Value} {v7 : Value} (h : Nx rl o t mb hx f root H P E G0 gp w0 σ0 V0 j v7 wr) : ∃ wx, wx = wr ∧ Nx rl o t mb hx f root H P E G0 gp w0 σ0 V0 j v7 wx := ⟨wr, rfl, h⟩
theorem add_any (rl t o mb root x f hx h : Nat) (σ : St) (V : Nat → Value) (E G : List Nat) (w : World) (hM : Mem w σ V) (hT : TAt w t o mb root) (h1 : 4 ≤ o) (h2 : o ≤ 16) (hrl0 : 1 ≤ rl) (hrl : rl ≤ 2) (ht : Tree σ (leastN o) o rl h root (blks σ hx x ++ E) G) (h3 : h ≤ 2999) (hnx : Nd σ (leastN o) o hx x) (hxh : hx ≤ h) (hE : ∀ k ∈ E, ∃ d, σ k = some d) :
    Calls Tryz.prog 43 #[ptr t, ptr x, .int .i64 (f : Int)] w (AddE rl o t mb f h E (lvs σ hx x ++ G) w σ V) := by
  obtain ⟨dx, hxx, hlv⟩ := hnx.here
  have hmay : may4 dx.r := by have := hnx.may; rw [rOf_some hxx] at this; exact this
  have LT := least_two h1 h2
  have CP := Lib.hid (pathFor_any t o mb root x dx σ V (leastN o) o rl h hx (blks σ hx x ++ E) G w hM hT ht (by omega) (by omega) (by omega) h3 hxx hlv hmay hxh)
  have HM := Lib.hid hM
  have HT := Lib.hid hT
  have HE := Lib.hid hE
  have HX := Lib.hid hnx
  have LTT := Lib.hid LT
  obtain ⟨i0, hi0, hz0, hz1, hz2⟩ := info_parts A.infoPp
  unfold ptr at CP ⊢
  clear hM hT ht hnx hE hxx hlv hmay LT
  go_enter Tryz.func43, Tryz.ntmps43
  go_wp2_with fail
  refine Calls.mono CP.out ?_
  rintro e w1 ⟨b, up, d, gp, cp, rfl, hgp, hu, hd, hl, ⟨hH, htop⟩, hrow, hb1⟩
  have HU := Lib.hid hu
  have HD := Lib.hid hd
  have HL := Lib.hid hl
  have HTOP := Lib.hid htop
  have HHH := Lib.hid hH
  have B1 := Lib.hid hb1
  have GPW := Lib.hid hgp
  have GPL0 := Lib.hid (hrow.lt gp rfl).2
  have PTH0 := Lib.hid (show ∀ (i : Nat) (hi : i < (b :: up).length), w1.cell? ⟨gp, i, none⟩ = some (ptr (b :: up)[i]) from fun i hi => by
    rw [hrow.cellAt i (by simpa using hi), List.getElem?_map, List.getElem?_eq_getElem hi]
    rfl)
  have NF := Lib.hid (show ¬ Foot σ V gp from fun hf => by have := HM.out.foot_lt hf; omega)
  obtain ⟨A0, cb, hvb, -, -, -⟩ := (HM.out.part b d hd).kids
  obtain ⟨nb, hnb⟩ : ∃ nb, nb = d.kids.length := ⟨_, rfl⟩
  have NB := Lib.hid hnb
  have VB := Lib.hid (show V b = .slice A0 nb cb by rw [hnb]; exact hvb)
  have hnb2 : nb ≤ 16 := by rw [hnb]; omega
  obtain ⟨m, hm⟩ : ∃ m, m = up.length + 1 := ⟨_, rfl⟩
  rw [← hm]
  have PM := Lib.hid (show (b :: up).length = m by rw [hm]; rfl)
  have m0 : 0 < m := by omega
  have m1 : (0 : Int) < (m : Int) := by omega
  have ONE := Lib.hid (show ∀ u ∈ ([ptr x] : List Value), u.oneCell' = true from fun u hu => by simp at hu; subst hu; rfl)
  have HBL0 : Below w1.heap.size w1 w1.drew := (Below.refl _ _).drew
  obtain ⟨wd, hwd⟩ : ∃ v, v = w1.drew := ⟨_, rfl⟩
  have HWD := Lib.hid hwd
  have HBL : Below w1.heap.size w1 wd := by rw [hwd]; exact HBL0
  have HS0 := Lib.hid (show wd.cell? ⟨gp, 0, none⟩ = some (ptr b) ∧ w1.heap.size ≤ wd.heap.size from ⟨by rw [hwd]; exact PTH0.out 0 (by simp), HBL.size⟩)
  have HB3 := Lib.hid (show m ≤ 3000 by have := HHH.out; omega)
  clear hwd hgp hu hd hl hH htop hrow hb1 hvb hnb hm HBL0
  go_wp2_with fail
  go_cut [7] from 15 to 28 (fun s7 wx => Nx rl o t mb hx f root h (b :: up) E (lvs σ hx x ++ G) gp w σ V 0 s7 wx)
  case first =>
    refine wp_region_held_drew (S := (fun W => W.cell? ⟨gp, 0, none⟩ = some (.pointer (some ⟨b, 0, none⟩)) ∧ w1.heap.size ≤ W.heap.size)) (by kernel_rfl) (by rw [← HWD.out]; exact HS0.out) (fun hHeld => ?_)
    rw [← HWD.out] at hHeld ⊢
    refine wpAnyH_take (i := 0) (v := ?vQ0) rfl (by kernel_rfl) (by kernel_rfl) (by kernel_rfl) (fun _ _ _ h => h) (Or.inl ⟨by rfl, ?yQ0⟩) hHeld ?rQ0
    case yQ0 => (intro W hSw; simp only [List.getElem_toArray, List.getElem_cons_zero]; go_simp; try (with_reducible rfl))
    simp only [List.getElem_toArray, List.getElem_cons_zero, Act.put, List.setIfInBounds_toArray, List.set_cons_zero, List.set_cons_succ]
    refine wpAnyH_take (i := 1) (v := ?vQ1) rfl (by kernel_rfl) (by kernel_rfl) (by kernel_rfl) (fun _ _ _ h => h) (Or.inl ⟨by rfl, ?yQ1⟩) hHeld ?rQ1
    case yQ1 => (intro W hSw; simp only [List.getElem_toArray, List.getElem_cons_succ, List.getElem_cons_zero]; go_simp; try (with_reducible rfl))
    simp only [List.getElem_toArray, List.getElem_cons_succ, List.getElem_cons_zero, Act.put, List.setIfInBounds_toArray, List.set_cons_zero, List.set_cons_succ]
    refine wpAnyH_take (i := 2) (v := ?vQ2) rfl (by kernel_rfl) (by kernel_rfl) (by kernel_rfl) (fun _ _ _ h => h) (Or.inl ⟨by rfl, ?yQ2⟩) hHeld ?rQ2
    case yQ2 => (intro W hSw; simp only [List.getElem_toArray, List.getElem_cons_succ, List.getElem_cons_zero]; go_simp; try (with_reducible rfl))
    simp only [List.getElem_toArray, List.getElem_cons_succ, List.getElem_cons_zero, Act.put, List.setIfInBounds_toArray, List.set_cons_zero, List.set_cons_succ]
    refine wpAnyH_take (i := 3) (v := ?vQ3) rfl (by kernel_rfl) (by kernel_rfl) (by kernel_rfl) (fun _ _ _ h => h) (Or.inl ⟨by rfl, ?yQ3⟩) hHeld ?rQ3
    case yQ3 => (intro W hSw; simp only [List.getElem_toArray, List.getElem_cons_succ, List.getElem_cons_zero]; go_simp; try (with_reducible rfl))
    simp only [List.getElem_toArray, List.getElem_cons_succ, List.getElem_cons_zero, Act.put, List.setIfInBounds_toArray, List.set_cons_zero, List.set_cons_succ]
    refine wpAnyH_take (i := 4) (v := ?vQ4) rfl (by kernel_rfl) (by kernel_rfl) (by kernel_rfl) (fun _ _ _ h => h) (Or.inl ⟨by rfl, ?yQ4⟩) hHeld ?rQ4
    case yQ4 => (intro W hSw; simp only [List.getElem_toArray, List.getElem_cons_succ, List.getElem_cons_zero]; go_simp; try (with_reducible rfl))
    simp only [List.getElem_toArray, List.getElem_cons_succ, List.getElem_cons_zero, Act.put, List.setIfInBounds_toArray, List.set_cons_zero, List.set_cons_succ]
    refine wpAnyH_take (i := 5) (v := ?vQ5) rfl (by kernel_rfl) (by kernel_rfl) (by kernel_rfl) (fun _ _ _ h => h) (Or.inl ⟨by rfl, ?yQ5⟩) hHeld ?rQ5
    case yQ5 => (intro W hSw; simp only [List.getElem_toArray, List.getElem_cons_succ, List.getElem_cons_zero]; go_simp; try (with_reducible rfl))
    simp only [List.getElem_toArray, List.getElem_cons_succ, List.getElem_cons_zero, Act.put, List.setIfInBounds_toArray, List.set_cons_zero, List.set_cons_succ]
    refine wpAnyH_take (i := 6) (v := ?vQ6) rfl (by kernel_rfl) (by kernel_rfl) (by kernel_rfl) (fun _ _ _ h => h) (Or.inl ⟨by rfl, ?yQ6⟩) hHeld ?rQ6
    case yQ6 => (intro W hSw; simp only [List.getElem_toArray, List.getElem_cons_succ, List.getElem_cons_zero]; go_simp; try (with_reducible rfl))
    simp only [List.getElem_toArray, List.getElem_cons_succ, List.getElem_cons_zero, Act.put, List.setIfInBounds_toArray, List.set_cons_zero, List.set_cons_succ]
    refine wpAnyH_take (i := 7) (v := ?vQ7) rfl (by kernel_rfl) (by kernel_rfl) (by kernel_rfl) (fun _ _ _ h => h) (Or.inl ⟨by rfl, ?yQ7⟩) hHeld ?rQ7
    case yQ7 => (intro W hSw; simp only [List.getElem_toArray, List.getElem_cons_succ, List.getElem_cons_zero]; go_simp; try (with_reducible rfl))
    simp only [List.getElem_toArray, List.getElem_cons_succ, List.getElem_cons_zero, Act.put, List.setIfInBounds_toArray, List.set_cons_zero, List.set_cons_succ]
    refine wpAnyH_take (i := 9) (v := ?vQ9) rfl (by kernel_rfl) (by kernel_rfl) (by kernel_rfl) (fun _ _ _ h => h) (Or.inl ⟨by rfl, ?yQ9⟩) hHeld ?rQ9
    case yQ9 => (intro W hSw; simp only [List.getElem_toArray, List.getElem_cons_succ, List.getElem_cons_zero]; go_simp; try (with_reducible rfl))
    simp only [List.getElem_toArray, List.getElem_cons_succ, List.getElem_cons_zero, Act.put, List.setIfInBounds_toArray, List.set_cons_zero, List.set_cons_succ]
    refine wpAnyH_ready (rs := [8, 10]) (by kernel_rfl) (by simp) (AllReadyH.cons rfl (fun K hK => ?_) (AllReadyH.cons rfl (fun K hK => ?_) AllReadyH.nil))
    · simp only [List.getElem_toArray, List.getElem_cons_succ, List.getElem_cons_zero]
      have c6 : wd.cell? ⟨b, 6, none⟩ = some (.slice A0 nb cb) := by have := (((HM.out.later (B1.out.trans (HBL.mono B1.out.size))).part b d HD.out).cells).2.2.2.2.2.2; rw [VB.out] at this; exact this
      go_simp
      clear c6
      refine hK.out _ _ (by exact hHeld) (fun hHeld1 => ?_)
      clear hK K hHeld
      have hHeld := hHeld1; clear hHeld1
      try simp only [List.getElem_toArray, List.getElem_cons_succ, List.getElem_cons_zero, Act.put, List.setIfInBounds_toArray, List.set_cons_zero, List.set_cons_succ]
      refine wpAnyH_ready (rs := [10]) (by kernel_rfl) (by simp) (AllReadyH.cons rfl (fun K hK => ?_) AllReadyH.nil)
      simp only [List.getElem_toArray, List.getElem_cons_succ, List.getElem_cons_zero]
      go_simp
      obtain ⟨W2, hWn⟩ : ∃ v, v = wd.alloc (.cells #[.pointer (some ⟨x, 0, none⟩)] 61) := ⟨_, rfl⟩
      rw [← hWn]
      have HBL : Below w1.heap.size w1 W2 := by rw [hWn]; exact HBL.alloc HBL.size _
      have BWx : Below w.heap.size w W2 := B1.out.trans (HBL.mono B1.out.size)
      have HSZ := HBL.size
      have NW := Lib.hid (show ∀ j u, ([ptr x] : List Value)[j]? = some u → W2.cell? ((⟨wd.heap.size, 0, none⟩ : Addr).add j) = some u from fun j u hj => by
        rw [hWn]
        match j, hj with
        | 0, hj => simp [ptr] at hj; subst hj; simp [Addr.add, go_sem]
        | j + 1, hj => simp at hj)
      have BW := Lib.hid (show Below w.heap.size w W2 from BWx)
      have MW := Lib.hid (HM.out.later BW.out)
      have OW := Lib.hid (show W2.ownsRow 0 61 1 (.slice A0 nb cb) nb (d.kids.map ptr) by have := (MW.out.part b d HD.out).row; rw [VB.out, ← NB.out] at this; exact this)
      have GPL := Lib.hid (show gp < W2.heap.size from Nat.lt_of_lt_of_le GPL0.out HSZ)
      have PTH := Lib.hid (show ∀ (i : Nat) (hi : i < (b :: up).length), W2.cell? ⟨gp, i, none⟩ = some (ptr (b :: up)[i]) from fun i hi => (World.cell?_of_block (w := w1) (w' := W2) (a := ⟨gp, i, none⟩) (HBL.block gp GPL0.out)).trans (PTH0.out i hi))
      have S1 := Lib.hid (show W2.cell? ⟨gp, 0, none⟩ = some (ptr b) ∧ w1.heap.size ≤ W2.heap.size from ⟨PTH.out 0 (by simp), HSZ⟩)
      have BLH := Lib.hid HBL
      clear hWn BWx HSZ HBL
      refine hK.out _ _ (by exact S1.out) (fun hHeld1 => ?_)
      clear hK K hHeld
      have hHeld := hHeld1; clear hHeld1
      try simp only [List.getElem_toArray, List.getElem_cons_succ, List.getElem_cons_zero, Act.put, List.setIfInBounds_toArray, List.set_cons_zero, List.set_cons_succ]
      refine wpAnyH_ready (rs := [11]) (by kernel_rfl) (by simp) (AllReadyH.cons rfl (fun K hK => ?_) AllReadyH.nil)
      simp only [List.getElem_toArray, List.getElem_cons_succ, List.getElem_cons_zero]
      refine wp_append_lies W2 (.tmp 23) (.tmp 25) 73 rfl 0 61 i0 (.pointer none) 1 8 Tryz.underlying73 hi0 hz0 hz1 hz2 rfl (by decide) (.slice A0 nb cb) nb (d.kids.map ptr) rfl OW.out ⟨wd.heap.size, 0, none⟩ 1 1 [ptr x] rfl rfl NW.out ONE.out (by decide) (by unfold maxLen; omega) (by omega) (Nat.zero_le _) W2.heap.size rfl ?_
      intro gn capn WP hown hgrow hat hglt
      have GR := Lib.hid (show W2.grownBy WP (V b).ownBlock by rw [VB.out]; exact hgrow)
      have ON := Lib.hid hown
      have HAT := Lib.hid (show ∀ k, (Value.slice (some ⟨gn, 0, none⟩) (nb + 1) capn).ownBlock = some k → (V b).ownBlock = some k ∨ k = W2.heap.size from fun k hk => by
        simp [Value.ownBlock] at hk
        subst hk
        rw [VB.out]
        exact hat)
      have obj := (GR.out.block b (MW.out.part b d HD.out).lt (fun e => (MW.out.tags HD.out HD.out) e.symm)).trans (MW.out.part b d HD.out).obj
      have c6 : WP.cell? ⟨b, 6, none⟩ = some (.slice A0 nb cb) := by rw [← VB.out]; simp [World.cell?, obj, pdC]
      have f6 : WP.frozen? ⟨b, 6, none⟩ = false := by simp [World.frozen?, obj]
      have p0 : WP.cell? ⟨gp, 0, none⟩ = some (ptr b) := (World.cell?_of_block (w := W2) (w' := WP) (a := ⟨gp, 0, none⟩) (GR.out.block gp GPL.out (fun e => NF.out (Or.inr ⟨b, d, HD.out, e.symm⟩)))).trans hHeld.1
      have P0 := Lib.hid p0
      have s0 : w1.heap.size ≤ WP.heap.size := Nat.le_trans hHeld.2 GR.out.size
      have SZ := Lib.hid s0
      clear hown hgrow hat hglt obj
      refine hK.out _ _ (by exact ⟨P0.out, SZ.out⟩) (fun hHeld1 => ?_)
      clear hK K hHeld
      have hHeld := hHeld1; clear hHeld1
      try simp only [List.getElem_toArray, List.getElem_cons_succ, List.getElem_cons_zero, Act.put, List.setIfInBounds_toArray, List.set_cons_zero, List.set_cons_succ]
      refine wpAnyH_take (i := 12) (v := ?vZwd12) rfl (by kernel_rfl) (by kernel_rfl) (by kernel_rfl) (fun _ _ _ h => h) (Or.inl ⟨by rfl, ?yZwd12⟩) hHeld ?rZwd12
      case yZwd12 => (intro W hSw; simp only [List.getElem_toArray, List.getElem_cons_succ, List.getElem_cons_zero]; go_simp; try (with_reducible rfl))
      simp only [List.getElem_toArray, List.getElem_cons_succ, List.getElem_cons_zero, Act.put, List.setIfInBounds_toArray, List.set_cons_zero, List.set_cons_succ]
      refine wpAnyH_take (i := 13) (v := ?vZwd13) rfl (by kernel_rfl) (by kernel_rfl) (by kernel_rfl) (fun _ _ _ h => h) (Or.inl ⟨by rfl, ?yZwd13⟩) hHeld ?rZwd13
      case yZwd13 => (intro W hSw; simp only [List.getElem_toArray, List.getElem_cons_succ, List.getElem_cons_zero]; go_simp; try (with_reducible rfl))
      simp only [List.getElem_toArray, List.getElem_cons_succ, List.getElem_cons_zero, Act.put, List.setIfInBounds_toArray, List.set_cons_zero, List.set_cons_succ]
      refine wpAnyH_ready (rs := [14]) (by kernel_rfl) (by simp) (AllReadyH.cons rfl (fun K hK => ?_) AllReadyH.nil)
      simp only [List.getElem_toArray, List.getElem_cons_succ, List.getElem_cons_zero]
      go_simp
      have p1 : (WP.setCell ⟨b, 6, none⟩ (.slice (some ⟨gn, 0, none⟩) (nb + 1) capn)).cell? ⟨gp, 0, none⟩ = some (ptr b) := (World.cell?_of_block (w := WP) (w' := _) (a := ⟨gp, 0, none⟩) (Below.heap_setCell _ _ _ _ (fun e => NF.out (Or.inl ⟨d, by rw [show gp = b from e]; exact HD.out⟩)))).trans P0.out
      have P1 := Lib.hid p1
      clear p1 p0 c6 f6
      refine hK.out _ _ (by exact ⟨P1.out, by simpa using SZ.out⟩) (fun hHeld1 => ?_)
      clear hK K hHeld hHeld1
      refine wpAnyH_done (by kernel_rfl) ?_ _
      go_wp2_with fail
      go_meet
      case rel =>
        exact Nx.start HM.out HT.out HE.out HU.out HTOP.out HD.out HL.out HX.out BW.out GPW.out GPL.out (fun i hi => PTH.out i hi) GR.out (by rw [List.length_append, List.map_append, ← NB.out]; exact ON.out) HAT.out
    · simp only [List.getElem_toArray, List.getElem_cons_succ, List.getElem_cons_zero]
      go_simp
      obtain ⟨W2, hWn⟩ : ∃ v, v = wd.alloc (.cells #[.pointer (some ⟨x, 0, none⟩)] 61) := ⟨_, rfl⟩
      rw [← hWn]
      have HBL : Below w1.heap.size w1 W2 := by rw [hWn]; exact HBL.alloc HBL.size _
      have BWx : Below w.heap.size w W2 := B1.out.trans (HBL.mono B1.out.size)
      have HSZ := HBL.size
      have NW := Lib.hid (show ∀ j u, ([ptr x] : List Value)[j]? = some u → W2.cell? ((⟨wd.heap.size, 0, none⟩ : Addr).add j) = some u from fun j u hj => by
        rw [hWn]
        match j, hj with
        | 0, hj => simp [ptr] at hj; subst hj; simp [Addr.add, go_sem]
        | j + 1, hj => simp at hj)
      have BW := Lib.hid (show Below w.heap.size w W2 from BWx)
      have MW := Lib.hid (HM.out.later BW.out)
      have OW := Lib.hid (show W2.ownsRow 0 61 1 (.slice A0 nb cb) nb (d.kids.map ptr) by have := (MW.out.part b d HD.out).row; rw [VB.out, ← NB.out] at this; exact this)
      have GPL := Lib.hid (show gp < W2.heap.size from Nat.lt_of_lt_of_le GPL0.out HSZ)
      have PTH := Lib.hid (show ∀ (i : Nat) (hi : i < (b :: up).length), W2.cell? ⟨gp, i, none⟩ = some (ptr (b :: up)[i]) from fun i hi => (World.cell?_of_block (w := w1) (w' := W2) (a := ⟨gp, i, none⟩) (HBL.block gp GPL0.out)).trans (PTH0.out i hi))
      have S1 := Lib.hid (show W2.cell? ⟨gp, 0, none⟩ = some (ptr b) ∧ w1.heap.size ≤ W2.heap.size from ⟨PTH.out 0 (by simp), HSZ⟩)
      have BLH := Lib.hid HBL
      clear hWn BWx HSZ HBL
      refine hK.out _ _ (by exact S1.out) (fun hHeld1 => ?_)
      clear hK K hHeld
      have hHeld := hHeld1; clear hHeld1
      try simp only [List.getElem_toArray, List.getElem_cons_succ, List.getElem_cons_zero, Act.put, List.setIfInBounds_toArray, List.set_cons_zero, List.set_cons_succ]
      have HBL := BLH.out
      refine wpAnyH_ready (rs := [8]) (by kernel_rfl) (by simp) (AllReadyH.cons rfl (fun K hK => ?_) AllReadyH.nil)
      simp only [List.getElem_toArray, List.getElem_cons_succ, List.getElem_cons_zero]
      have c6 : W2.cell? ⟨b, 6, none⟩ = some (.slice A0 nb cb) := by have := (((HM.out.later (B1.out.trans (HBL.mono B1.out.size))).part b d HD.out).cells).2.2.2.2.2.2; rw [VB.out] at this; exact this
      go_simp
      clear c6
      refine hK.out _ _ (by exact hHeld) (fun hHeld1 => ?_)
      clear hK K hHeld
      have hHeld := hHeld1; clear hHeld1
      try simp only [List.getElem_toArray, List.getElem_cons_succ, List.getElem_cons_zero, Act.put, List.setIfInBounds_toArray, List.set_cons_zero, List.set_cons_succ]
      refine wpAnyH_ready (rs := [11]) (by kernel_rfl) (by simp) (AllReadyH.cons rfl (fun K hK => ?_) AllReadyH.nil)
      simp only [List.getElem_toArray, List.getElem_cons_succ, List.getElem_cons_zero]
      refine wp_append_lies W2 (.tmp 23) (.tmp 25) 73 rfl 0 61 i0 (.pointer none) 1 8 Tryz.underlying73 hi0 hz0 hz1 hz2 rfl (by decide) (.slice A0 nb cb) nb (d.kids.map ptr) rfl OW.out ⟨wd.heap.size, 0, none⟩ 1 1 [ptr x] rfl rfl NW.out ONE.out (by decide) (by unfold maxLen; omega) (by omega) (Nat.zero_le _) W2.heap.size rfl ?_
      intro gn capn WP hown hgrow hat hglt
      have GR := Lib.hid (show W2.grownBy WP (V b).ownBlock by rw [VB.out]; exact hgrow)
      have ON := Lib.hid hown
      have HAT := Lib.hid (show ∀ k, (Value.slice (some ⟨gn, 0, none⟩) (nb + 1) capn).ownBlock = some k → (V b).ownBlock = some k ∨ k = W2.heap.size from fun k hk => by
        simp [Value.ownBlock] at hk
        subst hk
        rw [VB.out]
        exact hat)
      have obj := (GR.out.block b (MW.out.part b d HD.out).lt (fun e => (MW.out.tags HD.out HD.out) e.symm)).trans (MW.out.part b d HD.out).obj
      have c6 : WP.cell? ⟨b, 6, none⟩ = some (.slice A0 nb cb) := by rw [← VB.out]; simp [World.cell?, obj, pdC]
      have f6 : WP.frozen? ⟨b, 6, none⟩ = false := by simp [World.frozen?, obj]
      have p0 : WP.cell? ⟨gp, 0, none⟩ = some (ptr b) := (World.cell?_of_block (w := W2) (w' := WP) (a := ⟨gp, 0, none⟩) (GR.out.block gp GPL.out (fun e => NF.out (Or.inr ⟨b, d, HD.out, e.symm⟩)))).trans hHeld.1
      have P0 := Lib.hid p0
      have s0 : w1.heap.size ≤ WP.heap.size := Nat.le_trans hHeld.2 GR.out.size
      have SZ := Lib.hid s0
      clear hown hgrow hat hglt obj
      refine hK.out _ _ (by exact ⟨P0.out, SZ.out⟩) (fun hHeld1 => ?_)
      clear hK K hHeld
      have hHeld := hHeld1; clear hHeld1
      try simp only [List.getElem_toArray, List.getElem_cons_succ, List.getElem_cons_zero, Act.put, List.setIfInBounds_toArray, List.set_cons_zero, List.set_cons_succ]
      refine wpAnyH_take (i := 12) (v := ?vYwd12) rfl (by kernel_rfl) (by kernel_rfl) (by kernel_rfl) (fun _ _ _ h => h) (Or.inl ⟨by rfl, ?yYwd12⟩) hHeld ?rYwd12
      case yYwd12 => (intro W hSw; simp only [List.getElem_toArray, List.getElem_cons_succ, List.getElem_cons_zero]; go_simp; try (with_reducible rfl))
      simp only [List.getElem_toArray, List.getElem_cons_succ, List.getElem_cons_zero, Act.put, List.setIfInBounds_toArray, List.set_cons_zero, List.set_cons_succ]
      refine wpAnyH_take (i := 13) (v := ?vYwd13) rfl (by kernel_rfl) (by kernel_rfl) (by kernel_rfl) (fun _ _ _ h => h) (Or.inl ⟨by rfl, ?yYwd13⟩) hHeld ?rYwd13
      case yYwd13 => (intro W hSw; simp only [List.getElem_toArray, List.getElem_cons_succ, List.getElem_cons_zero]; go_simp; try (with_reducible rfl))
      simp only [List.getElem_toArray, List.getElem_cons_succ, List.getElem_cons_zero, Act.put, List.setIfInBounds_toArray, List.set_cons_zero, List.set_cons_succ]
      refine wpAnyH_ready (rs := [14]) (by kernel_rfl) (by simp) (AllReadyH.cons rfl (fun K hK => ?_) AllReadyH.nil)
      simp only [List.getElem_toArray, List.getElem_cons_succ, List.getElem_cons_zero]
      go_simp
      have p1 : (WP.setCell ⟨b, 6, none⟩ (.slice (some ⟨gn, 0, none⟩) (nb + 1) capn)).cell? ⟨gp, 0, none⟩ = some (ptr b) := (World.cell?_of_block (w := WP) (w' := _) (a := ⟨gp, 0, none⟩) (Below.heap_setCell _ _ _ _ (fun e => NF.out (Or.inl ⟨d, by rw [show gp = b from e]; exact HD.out⟩)))).trans P0.out
      have P1 := Lib.hid p1
      clear p1 p0 c6 f6
      refine hK.out _ _ (by exact ⟨P1.out, by simpa using SZ.out⟩) (fun hHeld1 => ?_)
      clear hK K hHeld hHeld1
      refine wpAnyH_done (by kernel_rfl) ?_ _
      go_wp2_with fail
      go_meet
      case rel =>
        exact Nx.start HM.out HT.out HE.out HU.out HTOP.out HD.out HL.out HX.out BW.out GPW.out GPL.out (fun i hi => PTH.out i hi) GR.out (by rw [List.length_append, List.map_append, ← NB.out]; exact ON.out) HAT.out
  case rest =>
    clear HBL HS0 HWD
    obtain ⟨wx, ewx, hcut2⟩ := hcut.name
    subst ewx
    clear hcut
    have C0 := Lib.hid hcut2
    clear hcut2
    have HPM : (b :: up).length = m := PM.out
    obtain ⟨P, hP⟩ : ∃ P, P = b :: up := ⟨_, rfl⟩
    have HMP := Lib.hid (show P.length = m by rw [hP]; exact HPM)
    have HHP := Lib.hid (show h + 1 = hx + P.length by rw [hP]; have := HHH.out; simp; omega)
    rw [← hP] at C0
    clear hP HPM PM HU HD HL HTOP HHH GPL0 PTH0 NF NB VB
    go_wp2_with fail
    go_loopw [7, 31] (fun v7 v31 wr => AdR rl o t mb hx f root h P E (lvs σ hx x ++ G) gp w σ V v7 v31 wr) (fun _ v31 _ => m - (intOf v31).toNat)
    case atStart => exact ⟨0, rfl, C0.out⟩
    case round =>
      clear C0
      obtain ⟨j, rfl, hnx⟩ := hrel
      have hm3 : m ≤ 3000 := HB3.out
      have HNX := Lib.hid hnx
      clear hnx
      by_cases hlt : j < m
      · have hlz : (j : Int) < (m : Int) := by omega
        have hj0 : (0 : Int) ≤ (j : Int) := by omega
        obtain ⟨σ1, V1, A, G1, rt, c, hdis⟩ := HNX.out
        have HC := Lib.hid c
        have hjP : j < P.length := by rw [HMP.out]; exact hlt
        have HJP := Lib.hid hjP
        rcases hdis with ⟨hj2, rfl, hu, htop⟩ | ⟨hj2, _⟩
        case inr => exact absurd hj2 (by omega)
        obtain ⟨n, hn⟩ : ∃ n, n = P[j]'hjP := ⟨_, rfl⟩
        rw [← hn] at hu htop
        have HN := Lib.hid hn
        have cp := c.path j hjP
        rw [← hn] at cp
        have HU := Lib.hid hu
        have HTOP := Lib.hid htop
        obtain ⟨dn, hdn⟩ : ∃ d, σ1 n = some d := by
          obtain ⟨_, _, d, _, hd, _⟩ := hu
          exact ⟨d, hd⟩
        have HD := Lib.hid hdn
        obtain ⟨a1, a2, a3, a4, a5, a6, a7, a8⟩ := hu.at hdn
        have AT := Lib.hid (And.intro a1 (And.intro a2 (And.intro a3 (And.intro a4 (And.intro a5 a7)))))
        have CF := Lib.hid (fit_any n dn σ1 V1 wr c.stp.mem hdn (fun k hk => ⟨(a3 k hk).1, by obtain ⟨e, he, _⟩ := (a3 k hk).2; exact ⟨e, he⟩⟩) (by omega))
        unfold ptr at CF cp
        clear c hu htop hn hdn a1 a2 a3 a4 a5 a6 a7 a8 hj2
        go_wp2_with fail
        refine Calls.mono CF.out ?_
        rintro e w2 ⟨rfl, hp2, hk2⟩
        obtain ⟨c2, u2, r2⟩ := HC.out.fit HJP.out HU.out HD.out hp2 hk2
        obtain ⟨d1, e1⟩ : ∃ d, d = { dn with r := hull σ1 dn.kids } := ⟨_, rfl⟩
        rw [← e1] at c2 u2 r2
        obtain ⟨σ2, e2⟩ : ∃ s, s = upd σ1 n d1 := ⟨_, rfl⟩
        rw [← e2] at c2 u2 r2
        have HC2 := Lib.hid c2
        have HU2 := Lib.hid u2
        have HD2 := Lib.hid (show σ2 n = some d1 by rw [e2]; exact upd_same _ _ _)
        have HR2 := Lib.hid (show d1.r = hull σ2 d1.kids by rw [e1]; exact r2.symm)
        have HK2 := Lib.hid (show d1.kids.length ≤ o + 1 ∧ d1.lvl = ((hx + j : Nat) : Int) from by rw [e1]; exact ⟨AT.out.2.1, AT.out.1⟩)
        clear hp2 hk2 c2 u2 r2 e1 e2 HC HU HD AT CF
        have PN := Lib.hid (HC2.out.stp.mem.part n d1 HD2.out)
        obtain ⟨A1, cn, hvn, -, -, -⟩ := PN.out.kids
        obtain ⟨z0, -, -, -, -, -, z6⟩ := PN.out.cells
        obtain ⟨t0, t1, t2⟩ := HC2.out.tree.cells
        obtain ⟨nn, hnn⟩ : ∃ k, k = d1.kids.length := ⟨_, rfl⟩
        have NN := Lib.hid hnn
        rw [hvn, ← hnn] at z6
        rw [HK2.out.2] at z0
        unfold ptr at t2
        have hn17 : nn ≤ 17 := by rw [hnn]; have := HK2.out.1; omega
        clear hvn hnn
        obtain ⟨lv, hlv⟩ : ∃ k, k = hx + j := ⟨_, rfl⟩
        have HLV := Lib.hid hlv
        rw [← hlv] at z0
        have HC3 := Lib.hid (HC2.out.step ((Stp.refl t HC2.out.stp.mem).below (Below.refl _ _).drew) (Kps.refl _ _) (HC2.out.tree.later (Below.refl _ _).drew) (Nat.le_refl _) HC2.out.le).1
        clear hlv HC2 PN
        by_cases hle : nn ≤ o
        · have hlz2 : (nn : Int) ≤ (o : Int) := by omega
          go_wp2_with fail
          go_region
          go_wp2_with fail
          go_roundw
          case rel => exact ⟨j + 1, by go_num, HC3.out.few h1 h2 hrl HHP.out HJP.out HU2.out HN.out HTOP.out HD2.out HR2.out (by rw [← NN.out]; exact hle)⟩
          case measure => simp [intOf]; omega
        · have hlz2 : ¬ (nn : Int) ≤ (o : Int) := by omega
          have NK := Lib.hid (show d1.kids.length = o + 1 by have := HK2.out.1; have := NN.out; omega)
          obtain ⟨a1, a2, a3, a4, a5, a6, a7, a8⟩ := HU2.out.at HD2.out
          obtain ⟨er, her⟩ := HU2.out.top_known
          rw [HTOP.out] at her a7
          have qq := ptr_eql (HC3.out.stp.mem.ob ⟨d1, HD2.out⟩) (HC3.out.stp.mem.ob ⟨er, her⟩)
          have KD := Lib.hid a3
          have KN := Lib.hid a4
          clear a1 a2 a3 a4 a5 a6 a8 her
          rcases drop_cases hjP with ⟨e1, e2⟩ | ⟨hj1, e1⟩
          · have hnr : n = rt := by have := HTOP.out; rw [e1] at this; exact this
            have E1 := Lib.hid e1
            have E2 := Lib.hid e2
            rw [show (n == rt) = true by simp [hnr]] at qq
            have HNR := Lib.hid hnr
            have CL := Lib.hid (least_any t o mb rt w2.drew HC3.out.tree h1 h2)
            have CS := Lib.hid (psplit_any n (leastN o) d1 σ2 V1 w2.drew HC3.out.stp.mem HD2.out KD.out (by rw [NK.out]; omega) (by have := LTT.out; omega) (by rw [NK.out]; have := LTT.out; omega))
            unfold ptr at CL CS
            clear e1 e2 hnr a7
            go_wp2_with fail
            go_region
            go_wp2_with fail
            refine Calls.mono CL.out ?_
            rintro e w3 ⟨rfl, ew3⟩
            subst ew3
            clear qq
            go_wp2_with fail
            refine Calls.mono CS.out ?_
            rintro e w3 ⟨oo, SS, LL, s1, s2, rfl, ho, hon, hp, hS, hL, b1, b2, hM3, hk3⟩
            unfold ptr
            have HM3 := Lib.hid hM3
            have HX3 := Lib.hid (And.intro ho (And.intro hon (And.intro hp (And.intro hS (And.intro hL (And.intro b1 (And.intro b2 hk3)))))))
            have hno : n ≠ oo := fun e => by have := HD2.out; rw [e, hon] at this; cases this
            have y0 := (HM3.out.part n _ (upd_same _ _ _)).cells.1
            dsimp only at y0
            rw [HK2.out.2, ← HLV.out] at y0
            have TR3 := Lib.hid (show TAt w3 t o mb rt from HC3.out.tree.keep hk3 (fun e => HC3.out.tree.foot HC3.out.stp.mem (Or.inl ⟨d1, by rw [e]; exact HD2.out⟩)))
            have hlv1 : IntKind.i64.wrap ((lv : Int) + 1) = (lv : Int) + 1 := IntWalk.i64_in _ (by have := HLV.out; have := HHP.out; omega)
            have NN3 := Lib.hid (newNode_any ((lv : Int) + 1) (.slice (some ⟨w3.heap.size, 0, none⟩) 2 2) [n, oo] _ _ (w3.alloc (.cells #[ptr n, ptr oo] 61)) (HM3.out.alloc _) (World.ownsRow_lit (size := 1) (base := 0) w3 #[ptr n, ptr oo] 2 (Nat.zero_le _) (by unfold maxLen; omega) rfl) (fun c e g hc hV hb => by
              have := HM3.out.foot_lt (Or.inr ⟨c, e, hc, hV⟩)
              simp [Value.ownBlock] at hb
              omega) (fun k hk => by
              simp only [List.mem_cons, List.not_mem_nil, or_false] at hk
              rcases hk with rfl | rfl
              · exact ⟨_, upd_same _ _ _⟩
              · exact ⟨_, by rw [upd_other _ _ (Ne.symm hno)]; exact upd_same _ _ _⟩) (by simp))
            unfold ptr at NN3
            clear ho hon hp hS hL b1 b2 hM3 hk3 hno CL CS
            go_wp2_with fail
            refine Calls.mono NN3.out ?_
            rintro e w5 ⟨tt, rfl, htt, htn, hM5, hb5⟩
            have TR5 := Lib.hid (show TAt w5 t o mb rt from (TR3.out.later ((Below.refl _ _).alloc (Nat.le_refl _) _)).later hb5)
            obtain ⟨v0, v1, v2⟩ := TR5.out.cells
            have vf := TR5.out.soft
            unfold ptr at v2
            have FIN := Lib.hid (show Nx rl o t mb hx f rt h P E (lvs σ hx x ++ G) gp w σ V (j + 1) u7 (w5.setCell ⟨t, 2, none⟩ (ptr tt)) from by
              obtain ⟨ho, hon, hp, hS, hL, b1, b2, hk3⟩ := HX3.out
              have hu := HU2.out
              rw [E1.out] at hu
              refine HC3.out.newroot h1 h2 hrl HHP.out E2.out hu HD2.out ho hon hp hS hL b1 b2 HM3.out rfl hk3 ((Below.refl _ _).alloc (Nat.le_refl _) (.cells #[ptr n, ptr oo] 61)) htt htn (s3 := .slice (some ⟨w3.heap.size, 0, none⟩) 2 2) (fun k hk => ?_) ?_ hb5
              · simp [Value.ownBlock] at hk; omega
              · rw [HK2.out.2, ← HLV.out] at hM5 ⊢; exact hM5)
            unfold ptr at FIN
            clear htt htn hM5 hb5 y0 NN3
            go_wp2_with fail
            go_roundw
            case rel => exact ⟨j + 1, by go_num, FIN.out⟩
            case measure => simp [intOf]; omega
          · have hnr : n ≠ rt := fun e => (a7 (by rw [e1]; exact List.cons_ne_nil _ _)).1 e.symm
            rw [show (n == rt) = false by simp [hnr]] at qq
            have HJ1 := Lib.hid hj1
            by_cases hf : lv = f
            · have hfz : (lv : Int) = (f : Int) := by omega
              have HF := Lib.hid hf
              have CL := Lib.hid (many_any t o mb rt w2.drew HC3.out.tree h1 h2)
              have CS := Lib.hid (shed_any n (manyN o) d1 σ2 V1 w2.drew HC3.out.stp.mem HD2.out KD.out (by rw [NK.out]; omega) (by have := LTT.out.2.2.1; omega) (by rw [NK.out]; have := LTT.out.2.2.2.1; omega) KN.out)
              unfold ptr at CL CS
              clear e1 hnr a7 hf
              go_wp2_with fail
              go_region
              go_wp2_with fail
              refine Calls.mono CL.out ?_
              rintro e w3 ⟨rfl, ew3⟩
              subst ew3
              clear qq
              go_wp2_with fail
              refine Calls.mono CS.out ?_
              rintro e w3 ⟨FF, g, s, hFl, hFn, hFk, rfl, hg, hrow, hs, hM3, hk3⟩
              have FIN := Lib.hid (show Nx rl o t mb hx f rt h P E (lvs σ hx x ++ G) gp w σ V (j + 1) (.slice (some ⟨g, 0, none⟩) (manyN o) (manyN o)) w3 from
                HC3.out.lose h1 h2 hrl HHP.out HJP.out HJ1.out HU2.out HN.out HTOP.out HD2.out (by rw [← HLV.out]; exact HF.out) (by rw [NK.out]; omega) hFl hFn hFk hg hrow hs hM3 hk3)
              clear hFl hFn hFk hg hrow hs hM3 hk3
              go_wp2_with fail
              go_roundw
              case rel => exact ⟨j + 1, by go_num, FIN.out⟩
              case measure => simp [intOf]; omega
            · have hfz : ¬ (lv : Int) = (f : Int) := by omega
              obtain ⟨wd, hwd⟩ : ∃ v, v = w2.drew.drew := ⟨_, rfl⟩
              have HWD := Lib.hid hwd
              have HBd := Lib.hid (show Below w2.drew.heap.size w2.drew wd by rw [hwd]; exact (Below.refl _ _).drew)
              have HC4 := Lib.hid (HC3.out.step ((Stp.refl t HC3.out.stp.mem).below HBd.out) (Kps.refl _ _) (HC3.out.tree.later HBd.out) (Nat.le_refl _) HC3.out.le).1
              obtain ⟨q, hq⟩ : ∃ q, q = P[j + 1]'hj1 := ⟨_, rfl⟩
              have HQE := Lib.hid hq
              have hu4 := HU2.out
              rw [e1, ← hq] at hu4
              obtain ⟨dq, g1, -, -, g4, -⟩ := hu4.above
              have DQ := Lib.hid g1
              have QN := Lib.hid g4
              have MQ := Lib.hid (HC4.out.stp.mem.part q dq g1)
              obtain ⟨Aq, cq, hvq, -, -, -⟩ := MQ.out.kids
              obtain ⟨nq, hnq⟩ : ∃ k, k = dq.kids.length := ⟨_, rfl⟩
              have NQ := Lib.hid hnq
              have VQ := Lib.hid (show V1 q = .slice Aq nq cq by rw [hnq]; exact hvq)
              have hnq20 : nq ≤ 17 := by
                obtain ⟨dq2, k1, _, k3, _⟩ := hu4.above
                rw [g1] at k1
                cases k1
                omega
              have CQ1 := Lib.hid (show wd.cell? ⟨q, 6, none⟩ = some (.slice Aq nq cq) by rw [← VQ.out]; exact MQ.out.cells.2.2.2.2.2.2)
              have HS8 := Lib.hid (show wd.cell? ⟨gp, j + 1, none⟩ = some (ptr q) ∧ w2.heap.size ≤ wd.heap.size from ⟨by rw [hq]; exact HC4.out.path (j + 1) hj1, HBd.out.size⟩)
              have CL := Lib.hid (least_any t o mb rt wd HC4.out.tree h1 h2)
              have CS := Lib.hid (psplit_any n (leastN o) d1 σ2 V1 wd HC4.out.stp.mem HD2.out KD.out (by rw [NK.out]; omega) (by have := LTT.out; omega) (by rw [NK.out]; have := LTT.out; omega))
              have hjm : ((j : Int) + 1) < (m : Int) := by have := HMP.out; omega
              have hjm2 : j + 1 < m := by have := HMP.out; omega
              have hjw : IntKind.i64.wrap ((j : Int) + 1) = (j : Int) + 1 := IntWalk.i64_in _ (by omega)
              have hj00 : (0 : Int) ≤ (j : Int) + 1 := by omega
              unfold ptr at CL CS
              clear e1 hnr a7 hwd hq hu4 g1 g4 hvq hnq MQ
              go_wp2_with fail
              go_region
              go_wp2_with fail
              refine wp_region_held_drew (S := (fun W => W.cell? ⟨gp, j + 1, none⟩ = some (.pointer (some ⟨q, 0, none⟩)) ∧ w2.heap.size ≤ W.heap.size)) (by kernel_rfl) (by rw [← HWD.out]; exact HS8.out) (fun hHeld => ?_)
              rw [← HWD.out] at hHeld ⊢
              refine wpAnyH_take (i := 0) (v := ?vR0) rfl (by kernel_rfl) (by kernel_rfl) (by kernel_rfl) (fun _ _ _ h => h) (Or.inl ⟨by rfl, ?yR0⟩) hHeld ?rR0
              case yR0 => (intro W hSw; simp only [List.getElem_toArray, List.getElem_cons_zero]; go_simp; try (with_reducible rfl))
              simp only [List.getElem_toArray, List.getElem_cons_zero, Act.put, List.setIfInBounds_toArray, List.set_cons_zero, List.set_cons_succ]
              refine wpAnyH_take (i := 1) (v := ?vR1) rfl (by kernel_rfl) (by kernel_rfl) (by kernel_rfl) (fun _ _ _ h => h) (Or.inl ⟨by rfl, ?yR1⟩) hHeld ?rR1
              case yR1 => (intro W hSw; simp only [List.getElem_toArray, List.getElem_cons_succ, List.getElem_cons_zero]; go_simp; try (with_reducible rfl))
              simp only [List.getElem_toArray, List.getElem_cons_succ, List.getElem_cons_zero, Act.put, List.setIfInBounds_toArray, List.set_cons_zero, List.set_cons_succ]
              refine wpAnyH_take (i := 2) (v := ?vR2) rfl (by kernel_rfl) (by kernel_rfl) (by kernel_rfl) (fun _ _ _ h => h) (Or.inl ⟨by rfl, ?yR2⟩) hHeld ?rR2
              case yR2 => (intro W hSw; simp only [List.getElem_toArray, List.getElem_cons_succ, List.getElem_cons_zero]; go_simp; try (with_reducible rfl))
              simp only [List.getElem_toArray, List.getElem_cons_succ, List.getElem_cons_zero, Act.put, List.setIfInBounds_toArray, List.set_cons_zero, List.set_cons_succ]
              refine wpAnyH_take (i := 3) (v := ?vR3) rfl (by kernel_rfl) (by kernel_rfl) (by kernel_rfl) (fun _ _ _ h => h) (Or.inl ⟨by rfl, ?yR3⟩) hHeld ?rR3
              case yR3 => (intro W hSw; simp only [List.getElem_toArray, List.getElem_cons_succ, List.getElem_cons_zero]; go_simp; try (with_reducible rfl))
              simp only [List.getElem_toArray, List.getElem_cons_succ, List.getElem_cons_zero, Act.put, List.setIfInBounds_toArray, List.set_cons_zero, List.set_cons_succ]
              refine wpAnyH_take (i := 4) (v := ?vR4) rfl (by kernel_rfl) (by kernel_rfl) (by kernel_rfl) (fun _ _ _ h => h) (Or.inl ⟨by rfl, ?yR4⟩) hHeld ?rR4
              case yR4 => (intro W hSw; simp only [List.getElem_toArray, List.getElem_cons_succ, List.getElem_cons_zero]; go_simp; try (with_reducible rfl))
              simp only [List.getElem_toArray, List.getElem_cons_succ, List.getElem_cons_zero, Act.put, List.setIfInBounds_toArray, List.set_cons_zero, List.set_cons_succ]
              refine wpAnyH_take (i := 5) (v := ?vR5) rfl (by kernel_rfl) (by kernel_rfl) (by kernel_rfl) (fun _ _ _ h => h) (Or.inl ⟨by rfl, ?yR5⟩) hHeld ?rR5
              case yR5 => (intro W hSw; simp only [List.getElem_toArray, List.getElem_cons_succ, List.getElem_cons_zero]; go_simp; try (with_reducible rfl))
              simp only [List.getElem_toArray, List.getElem_cons_succ, List.getElem_cons_zero, Act.put, List.setIfInBounds_toArray, List.set_cons_zero, List.set_cons_succ]
              refine wpAnyH_take (i := 6) (v := ?vR6) rfl (by kernel_rfl) (by kernel_rfl) (by kernel_rfl) (fun _ _ _ h => h) (Or.inl ⟨by rfl, ?yR6⟩) hHeld ?rR6
              case yR6 => (intro W hSw; simp only [List.getElem_toArray, List.getElem_cons_succ, List.getElem_cons_zero]; go_simp; try (with_reducible rfl))
              simp only [List.getElem_toArray, List.getElem_cons_succ, List.getElem_cons_zero, Act.put, List.setIfInBounds_toArray, List.set_cons_zero, List.set_cons_succ]
              refine wpAnyH_take (i := 7) (v := ?vR7) rfl (by kernel_rfl) (by kernel_rfl) (by kernel_rfl) (fun _ _ _ h => h) (Or.inl ⟨by rfl, ?yR7⟩) hHeld ?rR7
              case yR7 => (intro W hSw; simp only [List.getElem_toArray, List.getElem_cons_succ, List.getElem_cons_zero]; go_simp; try (with_reducible rfl))
              simp only [List.getElem_toArray, List.getElem_cons_succ, List.getElem_cons_zero, Act.put, List.setIfInBounds_toArray, List.set_cons_zero, List.set_cons_succ]
              refine wpAnyH_take (i := 8) (v := ?vR8) rfl (by kernel_rfl) (by kernel_rfl) (by kernel_rfl) (fun _ _ _ h => h) (Or.inl ⟨by rfl, ?yR8⟩) hHeld ?rR8
              case yR8 => (intro W hSw; simp only [List.getElem_toArray, List.getElem_cons_succ, List.getElem_cons_zero]; go_simp; try (with_reducible rfl))
              simp only [List.getElem_toArray, List.getElem_cons_succ, List.getElem_cons_zero, Act.put, List.setIfInBounds_toArray, List.set_cons_zero, List.set_cons_succ]
              refine wpAnyH_take (i := 9) (v := ?vR9) rfl (by kernel_rfl) (by kernel_rfl) (by kernel_rfl) (fun _ _ _ h => h) (Or.inl ⟨by rfl, ?yR9⟩) hHeld ?rR9
              case yR9 => (intro W hSw; simp only [List.getElem_toArray, List.getElem_cons_succ, List.getElem_cons_zero]; go_simp; try (with_reducible rfl))
              simp only [List.getElem_toArray, List.getElem_cons_succ, List.getElem_cons_zero, Act.put, List.setIfInBounds_toArray, List.set_cons_zero, List.set_cons_succ]
              refine wpAnyH_take (i := 10) (v := ?vR10) rfl (by kernel_rfl) (by kernel_rfl) (by kernel_rfl) (fun _ _ _ h => h) (Or.inl ⟨by rfl, ?yR10⟩) hHeld ?rR10
              case yR10 => (intro W hSw; simp only [List.getElem_toArray, List.getElem_cons_succ, List.getElem_cons_zero]; go_simp; try (with_reducible rfl))
              simp only [List.getElem_toArray, List.getElem_cons_succ, List.getElem_cons_zero, Act.put, List.setIfInBounds_toArray, List.set_cons_zero, List.set_cons_succ]
              refine wpAnyH_take (i := 11) (v := ?vR11) rfl (by kernel_rfl) (by kernel_rfl) (by kernel_rfl) (fun _ _ _ h => h) (Or.inl ⟨by rfl, ?yR11⟩) hHeld ?rR11
              case yR11 => (intro W hSw; simp only [List.getElem_toArray, List.getElem_cons_succ, List.getElem_cons_zero]; go_simp; try (with_reducible rfl))
              simp only [List.getElem_toArray, List.getElem_cons_succ, List.getElem_cons_zero, Act.put, List.setIfInBounds_toArray, List.set_cons_zero, List.set_cons_succ]
              refine wpAnyH_take (i := 13) (v := ?vR13) rfl (by kernel_rfl) (by kernel_rfl) (by kernel_rfl) (fun _ _ _ h => h) (Or.inl ⟨by rfl, ?yR13⟩) hHeld ?rR13
              case yR13 => (intro W hSw; simp only [List.getElem_toArray, List.getElem_cons_succ, List.getElem_cons_zero]; go_simp; try (with_reducible rfl))
              simp only [List.getElem_toArray, List.getElem_cons_succ, List.getElem_cons_zero, Act.put, List.setIfInBounds_toArray, List.set_cons_zero, List.set_cons_succ]
              refine wpAnyH_take (i := 14) (v := ?vR14) rfl (by kernel_rfl) (by kernel_rfl) (by kernel_rfl) (fun _ _ _ h => h) (Or.inl ⟨by rfl, ?yR14⟩) hHeld ?rR14
              case yR14 => (intro W hSw; simp only [List.getElem_toArray, List.getElem_cons_succ, List.getElem_cons_zero]; go_simp; try (with_reducible rfl))
              simp only [List.getElem_toArray, List.getElem_cons_succ, List.getElem_cons_zero, Act.put, List.setIfInBounds_toArray, List.set_cons_zero, List.set_cons_succ]
              refine wpAnyH_ready (rs := [12, 15]) (by kernel_rfl) (by simp) (AllReadyH.cons rfl (fun K hK => ?_) (AllReadyH.cons rfl (fun K hK => ?_) AllReadyH.nil))
              · simp only [List.getElem_toArray, List.getElem_cons_succ, List.getElem_cons_zero]
                have c6 := CQ1.out
                go_simp
                clear c6
                refine hK.out _ _ (by exact hHeld) (fun hHeld1 => ?_)
                clear hK K hHeld
                have hHeld := hHeld1; clear hHeld1
                try simp only [List.getElem_toArray, List.getElem_cons_succ, List.getElem_cons_zero, Act.put, List.setIfInBounds_toArray, List.set_cons_zero, List.set_cons_succ]
                refine wpAnyH_ready (rs := [15]) (by kernel_rfl) (by simp) (AllReadyH.cons rfl (fun K hK => ?_) AllReadyH.nil)
                simp only [List.getElem_toArray, List.getElem_cons_succ, List.getElem_cons_zero]
                go_simp
                go_at_call 38
                refine Calls.mono CL.out ?_
                rintro e w9 ⟨rfl, ew9⟩
                subst ew9
                try go_wp2_with fail
                refine hK.out _ _ (by exact hHeld) (fun hHeld1 => ?_)
                clear hK K hHeld
                have hHeld := hHeld1; clear hHeld1
                try simp only [List.getElem_toArray, List.getElem_cons_succ, List.getElem_cons_zero, Act.put, List.setIfInBounds_toArray, List.set_cons_zero, List.set_cons_succ]
                refine wpAnyH_ready (rs := [16]) (by kernel_rfl) (by simp) (AllReadyH.cons rfl (fun K hK => ?_) AllReadyH.nil)
                simp only [List.getElem_toArray, List.getElem_cons_succ, List.getElem_cons_zero]
                go_simp
                go_at_call 56
                refine Calls.mono CS.out ?_
                rintro e w3 ⟨oo, SS, LL, s1, s2, rfl, ho, hon, hp, hS, hL, b1, b2, hM3, hk3⟩
                unfold ptr
                try go_wp2_with fail
                have HM3 := Lib.hid hM3
                have HX3 := Lib.hid (And.intro ho (And.intro hon (And.intro hp (And.intro hS (And.intro hL (And.intro b1 (And.intro b2 hk3)))))))
                have hqo : q ≠ oo := fun e => by have := DQ.out; rw [e, hon] at this; cases this
                have HQ3 := Lib.hid (show (upd (upd σ2 oo ⟨d1.lvl, hull σ2 LL, 0, LL⟩) n { d1 with r := hull σ2 SS, kids := SS }) q = some dq by rw [upd_other _ _ QN.out, upd_other _ _ hqo]; exact DQ.out)
                have VQ3 := Lib.hid (show updV (updV V1 oo s1) n s2 q = .slice Aq nq cq by rw [updV_other _ _ QN.out, updV_other _ _ hqo]; exact VQ.out)
                have CQ3 := Lib.hid (show w3.cell? ⟨q, 6, none⟩ = some (.slice Aq nq cq) by rw [← VQ3.out]; exact (HM3.out.part q dq HQ3.out).cells.2.2.2.2.2.2)
                have st3 : Stp t wd σ2 V1 w3 _ _ := Stp.of_split HD2.out ho b1 b2 hM3 hk3
                have op3 := st3.out HC4.out.pgt.2.1 HC4.out.pgt.2.2 (by have := HC4.out.tlt; have := HC4.out.pgt.1; omega)
                have GP3 := Lib.hid (show gp < w3.heap.size ∧ ¬ Foot (upd (upd σ2 oo ⟨d1.lvl, hull σ2 LL, 0, LL⟩) n { d1 with r := hull σ2 SS, kids := SS }) (updV (updV V1 oo s1) n s2) gp from ⟨Nat.lt_of_lt_of_le HC4.out.pgt.2.1 st3.ke.size, op3.2⟩)
                have S3 := Lib.hid (show w3.cell? ⟨gp, j + 1, none⟩ = some (ptr q) ∧ w2.heap.size ≤ w3.heap.size from ⟨(World.cell?_of_block (w := wd) (w' := w3) (a := ⟨gp, j + 1, none⟩) op3.1).trans hHeld.1, Nat.le_trans hHeld.2 st3.ke.size⟩)
                clear ho hon hp hS hL b1 b2 hM3 hk3 hqo st3 op3
                refine hK.out _ _ (by exact S3.out) (fun hHeld1 => ?_)
                clear hK K hHeld
                have hHeld := hHeld1; clear hHeld1
                try simp only [List.getElem_toArray, List.getElem_cons_succ, List.getElem_cons_zero, Act.put, List.setIfInBounds_toArray, List.set_cons_zero, List.set_cons_succ]
                refine wpAnyH_ready (rs := [17]) (by kernel_rfl) (by simp) (AllReadyH.cons rfl (fun K hK => ?_) AllReadyH.nil)
                simp only [List.getElem_toArray, List.getElem_cons_succ, List.getElem_cons_zero]
                go_simp
                obtain ⟨W4, hW4⟩ : ∃ v, v = w3.alloc (.cells #[.pointer (some ⟨oo, 0, none⟩)] 61) := ⟨_, rfl⟩
                rw [← hW4]
                have HW34 := Lib.hid (show Below w3.heap.size w3 W4 by rw [hW4]; exact (Below.refl _ _).alloc (Nat.le_refl _) _)
                have HM4 := Lib.hid (HM3.out.later HW34.out)
                have CQ4 := Lib.hid (cell_later HW34.out CQ3.out)
                have OW := Lib.hid (show W4.ownsRow 0 61 1 (.slice Aq nq cq) nq (dq.kids.map ptr) by have := (HM4.out.part q dq HQ3.out).row; rw [VQ3.out, ← NQ.out] at this; exact this)
                have GP4 := Lib.hid (show gp < W4.heap.size ∧ ¬ Foot (upd (upd σ2 oo ⟨d1.lvl, hull σ2 LL, 0, LL⟩) n { d1 with r := hull σ2 SS, kids := SS }) (updV (updV V1 oo s1) n s2) gp from ⟨Nat.lt_of_lt_of_le GP3.out.1 HW34.out.size, GP3.out.2⟩)
                have NW := Lib.hid (show ∀ j u, ([ptr oo] : List Value)[j]? = some u → W4.cell? ((⟨w3.heap.size, 0, none⟩ : Addr).add j) = some u from fun j u hj => by
                  rw [hW4]
                  match j, hj with
                  | 0, hj => simp [ptr] at hj; subst hj; simp [Addr.add, go_sem]
                  | j + 1, hj => simp at hj)
                have ONE := Lib.hid (show ∀ u ∈ ([ptr oo] : List Value), u.oneCell' = true from fun u hu => by simp at hu; subst hu; rfl)
                have S4 := Lib.hid (show W4.cell? ⟨gp, j + 1, none⟩ = some (ptr q) ∧ w2.heap.size ≤ W4.heap.size from ⟨cell_later HW34.out S3.out.1, Nat.le_trans S3.out.2 HW34.out.size⟩)
                clear hW4
                refine hK.out _ _ (by exact S4.out) (fun hHeld1 => ?_)
                clear hK K hHeld
                have hHeld := hHeld1; clear hHeld1
                try simp only [List.getElem_toArray, List.getElem_cons_succ, List.getElem_cons_zero, Act.put, List.setIfInBounds_toArray, List.set_cons_zero, List.set_cons_succ]
                refine wpAnyH_ready (rs := [18]) (by kernel_rfl) (by simp) (AllReadyH.cons rfl (fun K hK => ?_) AllReadyH.nil)
                simp only [List.getElem_toArray, List.getElem_cons_succ, List.getElem_cons_zero]
                refine wp_append_lies W4 (.tmp 50) (.tmp 55) 73 rfl 0 61 i0 (.pointer none) 1 8 Tryz.underlying73 hi0 hz0 hz1 hz2 rfl (by decide) (.slice Aq nq cq) nq (dq.kids.map ptr) rfl OW.out ⟨w3.heap.size, 0, none⟩ 1 1 [ptr oo] rfl rfl NW.out ONE.out (by decide) (by unfold maxLen; omega) (by omega) (Nat.zero_le _) W4.heap.size rfl ?_
                intro gn capn WP hown hgrow hat hglt
                have GR := Lib.hid (show W4.grownBy WP (updV (updV V1 oo s1) n s2 q).ownBlock by rw [VQ3.out]; exact hgrow)
                have ON := Lib.hid hown
                have HAT := Lib.hid (show ∀ k, (Value.slice (some ⟨gn, 0, none⟩) (nq + 1) capn).ownBlock = some k → (updV (updV V1 oo s1) n s2 q).ownBlock = some k ∨ k = W4.heap.size from fun k hk => by
                  simp [Value.ownBlock] at hk
                  subst hk
                  rw [VQ3.out]
                  exact hat)
                have obj := (GR.out.block q (HM4.out.part q dq HQ3.out).lt (fun e => (HM4.out.tags HQ3.out HQ3.out) e.symm)).trans (HM4.out.part q dq HQ3.out).obj
                have c6 : WP.cell? ⟨q, 6, none⟩ = some (.slice Aq nq cq) := by rw [← VQ3.out]; simp [World.cell?, obj, pdC]
                have f6 : WP.frozen? ⟨q, 6, none⟩ = false := by simp [World.frozen?, obj]
                have p0 : WP.cell? ⟨gp, j + 1, none⟩ = some (ptr q) := (World.cell?_of_block (w := W4) (w' := WP) (a := ⟨gp, j + 1, none⟩) (GR.out.block gp GP4.out.1 (fun e => GP4.out.2 (Or.inr ⟨q, dq, HQ3.out, e.symm⟩)))).trans S4.out.1
                have P0 := Lib.hid p0
                have SZ := Lib.hid (show w2.heap.size ≤ WP.heap.size from Nat.le_trans S4.out.2 GR.out.size)
                clear hown hgrow hat hglt obj
                refine hK.out _ _ (by exact ⟨P0.out, SZ.out⟩) (fun hHeld1 => ?_)
                clear hK K hHeld
                have hHeld := hHeld1; clear hHeld1
                try simp only [List.getElem_toArray, List.getElem_cons_succ, List.getElem_cons_zero, Act.put, List.setIfInBounds_toArray, List.set_cons_zero, List.set_cons_succ]
                refine wpAnyH_take (i := 19) (v := ?vT119) rfl (by kernel_rfl) (by kernel_rfl) (by kernel_rfl) (fun _ _ _ h => h) (Or.inl ⟨by rfl, ?yT119⟩) hHeld ?rT119
                case yT119 => (intro W hSw; simp only [List.getElem_toArray, List.getElem_cons_succ, List.getElem_cons_zero]; go_simp; try (with_reducible rfl))
                simp only [List.getElem_toArray, List.getElem_cons_succ, List.getElem_cons_zero, Act.put, List.setIfInBounds_toArray, List.set_cons_zero, List.set_cons_succ]
                refine wpAnyH_take (i := 20) (v := ?vT120) rfl (by kernel_rfl) (by kernel_rfl) (by kernel_rfl) (fun _ _ _ h => h) (Or.inl ⟨by rfl, ?yT120⟩) hHeld ?rT120
                case yT120 => (intro W hSw; simp only [List.getElem_toArray, List.getElem_cons_succ, List.getElem_cons_zero]; go_simp; try (with_reducible rfl))
                simp only [List.getElem_toArray, List.getElem_cons_succ, List.getElem_cons_zero, Act.put, List.setIfInBounds_toArray, List.set_cons_zero, List.set_cons_succ]
                refine wpAnyH_ready (rs := [21]) (by kernel_rfl) (by simp) (AllReadyH.cons rfl (fun K hK => ?_) AllReadyH.nil)
                simp only [List.getElem_toArray, List.getElem_cons_succ, List.getElem_cons_zero]
                go_simp
                have P1 := Lib.hid (show (WP.setCell ⟨q, 6, none⟩ (.slice (some ⟨gn, 0, none⟩) (nq + 1) capn)).cell? ⟨gp, j + 1, none⟩ = some (ptr q) from (World.cell?_of_block (w := WP) (w' := _) (a := ⟨gp, j + 1, none⟩) (Below.heap_setCell _ _ _ _ (fun e => GP4.out.2 (Or.inl ⟨dq, by rw [show gp = q from e]; exact HQ3.out⟩)))).trans P0.out)
                have FIN := Lib.hid (show Nx rl o t mb hx f rt h P E (lvs σ hx x ++ G) gp w σ V (j + 1) u7 (WP.setCell ⟨q, 6, none⟩ (.slice (some ⟨gn, 0, none⟩) (nq + 1) capn)) from by
                  obtain ⟨ho, hon, hp, hS, hL, b1, b2, hk3⟩ := HX3.out
                  exact HC4.out.split h1 h2 hrl HJP.out HJ1.out HU2.out HN.out HQE.out HTOP.out HD2.out ho hon hp hS hL b1 b2 HM3.out rfl hk3 HW34.out HQ3.out GR.out (by rw [List.length_append, List.map_append, ← NQ.out]; exact ON.out) HAT.out)
                clear p0 c6 f6
                refine hK.out _ _ (by exact ⟨P1.out, by simpa using SZ.out⟩) (fun hHeld1 => ?_)
                clear hK K hHeld hHeld1
                refine wpAnyH_done (by kernel_rfl) ?_ _
                go_wp2_with fail
                go_roundw
                case rel => exact ⟨j + 1, by go_num, FIN.out⟩
                case measure => simp [intOf]; omega
              · simp only [List.getElem_toArray, List.getElem_cons_succ, List.getElem_cons_zero]
                go_simp
                go_at_call 38
                refine Calls.mono CL.out ?_
                rintro e w9 ⟨rfl, ew9⟩
                subst ew9
                try go_wp2_with fail
                refine hK.out _ _ (by exact hHeld) (fun hHeld1 => ?_)
                clear hK K hHeld
                have hHeld := hHeld1; clear hHeld1
                try simp only [List.getElem_toArray, List.getElem_cons_succ, List.getElem_cons_zero, Act.put, List.setIfInBounds_toArray, List.set_cons_zero, List.set_cons_succ]
                refine wpAnyH_ready (rs := [12, 16]) (by kernel_rfl) (by simp) (AllReadyH.cons rfl (fun K hK => ?_) (AllReadyH.cons rfl (fun K hK => ?_) AllReadyH.nil))
                · simp only [List.getElem_toArray, List.getElem_cons_succ, List.getElem_cons_zero]
                  have c6 := CQ1.out
                  go_simp
                  clear c6
                  refine hK.out _ _ (by exact hHeld) (fun hHeld1 => ?_)
                  clear hK K hHeld
                  have hHeld := hHeld1; clear hHeld1
                  try simp only [List.getElem_toArray, List.getElem_cons_succ, List.getElem_cons_zero, Act.put, List.setIfInBounds_toArray, List.set_cons_zero, List.set_cons_succ]
                  refine wpAnyH_ready (rs := [16]) (by kernel_rfl) (by simp) (AllReadyH.cons rfl (fun K hK => ?_) AllReadyH.nil)
                  simp only [List.getElem_toArray, List.getElem_cons_succ, List.getElem_cons_zero]
                  go_simp
                  go_at_call 56
                  refine Calls.mono CS.out ?_
                  rintro e w3 ⟨oo, SS, LL, s1, s2, rfl, ho, hon, hp, hS, hL, b1, b2, hM3, hk3⟩
                  unfold ptr
                  try go_wp2_with fail
                  have HM3 := Lib.hid hM3
                  have HX3 := Lib.hid (And.intro ho (And.intro hon (And.intro hp (And.intro hS (And.intro hL (And.intro b1 (And.intro b2 hk3)))))))
                  have hqo : q ≠ oo := fun e => by have := DQ.out; rw [e, hon] at this; cases this
                  have HQ3 := Lib.hid (show (upd (upd σ2 oo ⟨d1.lvl, hull σ2 LL, 0, LL⟩) n { d1 with r := hull σ2 SS, kids := SS }) q = some dq by rw [upd_other _ _ QN.out, upd_other _ _ hqo]; exact DQ.out)
                  have VQ3 := Lib.hid (show updV (updV V1 oo s1) n s2 q = .slice Aq nq cq by rw [updV_other _ _ QN.out, updV_other _ _ hqo]; exact VQ.out)
                  have CQ3 := Lib.hid (show w3.cell? ⟨q, 6, none⟩ = some (.slice Aq nq cq) by rw [← VQ3.out]; exact (HM3.out.part q dq HQ3.out).cells.2.2.2.2.2.2)
                  have st3 : Stp t wd σ2 V1 w3 _ _ := Stp.of_split HD2.out ho b1 b2 hM3 hk3
                  have op3 := st3.out HC4.out.pgt.2.1 HC4.out.pgt.2.2 (by have := HC4.out.tlt; have := HC4.out.pgt.1; omega)
                  have GP3 := Lib.hid (show gp < w3.heap.size ∧ ¬ Foot (upd (upd σ2 oo ⟨d1.lvl, hull σ2 LL, 0, LL⟩) n { d1 with r := hull σ2 SS, kids := SS }) (updV (updV V1 oo s1) n s2) gp from ⟨Nat.lt_of_lt_of_le HC4.out.pgt.2.1 st3.ke.size, op3.2⟩)
                  have S3 := Lib.hid (show w3.cell? ⟨gp, j + 1, none⟩ = some (ptr q) ∧ w2.heap.size ≤ w3.heap.size from ⟨(World.cell?_of_block (w := wd) (w' := w3) (a := ⟨gp, j + 1, none⟩) op3.1).trans hHeld.1, Nat.le_trans hHeld.2 st3.ke.size⟩)
                  clear ho hon hp hS hL b1 b2 hM3 hk3 hqo st3 op3
                  refine hK.out _ _ (by exact S3.out) (fun hHeld1 => ?_)
                  clear hK K hHeld
                  have hHeld := hHeld1; clear hHeld1
                  try simp only [List.getElem_toArray, List.getElem_cons_succ, List.getElem_cons_zero, Act.put, List.setIfInBounds_toArray, List.set_cons_zero, List.set_cons_succ]
                  refine wpAnyH_ready (rs := [17]) (by kernel_rfl) (by simp) (AllReadyH.cons rfl (fun K hK => ?_) AllReadyH.nil)
                  simp only [List.getElem_toArray, List.getElem_cons_succ, List.getElem_cons_zero]
                  go_simp
                  obtain ⟨W4, hW4⟩ : ∃ v, v = w3.alloc (.cells #[.pointer (some ⟨oo, 0, none⟩)] 61) := ⟨_, rfl⟩
                  rw [← hW4]
                  have HW34 := Lib.hid (show Below w3.heap.size w3 W4 by rw [hW4]; exact (Below.refl _ _).alloc (Nat.le_refl _) _)
                  have HM4 := Lib.hid (HM3.out.later HW34.out)
                  have CQ4 := Lib.hid (cell_later HW34.out CQ3.out)
                  have OW := Lib.hid (show W4.ownsRow 0 61 1 (.slice Aq nq cq) nq (dq.kids.map ptr) by have := (HM4.out.part q dq HQ3.out).row; rw [VQ3.out, ← NQ.out] at this; exact this)
                  have GP4 := Lib.hid (show gp < W4.heap.size ∧ ¬ Foot (upd (upd σ2 oo ⟨d1.lvl, hull σ2 LL, 0, LL⟩) n { d1 with r := hull σ2 SS, kids := SS }) (updV (updV V1 oo s1) n s2) gp from ⟨Nat.lt_of_lt_of_le GP3.out.1 HW34.out.size, GP3.out.2⟩)
                  have NW := Lib.hid (show ∀ j u, ([ptr oo] : List Value)[j]? = some u → W4.cell? ((⟨w3.heap.size, 0, none⟩ : Addr).add j) = some u from fun j u hj => by
                    rw [hW4]
                    match j, hj with
                    | 0, hj => simp [ptr] at hj; subst hj; simp [Addr.add, go_sem]
                    | j + 1, hj => simp at hj)
                  have ONE := Lib.hid (show ∀ u ∈ ([ptr oo] : List Value), u.oneCell' = true from fun u hu => by simp at hu; subst hu; rfl)
                  have S4 := Lib.hid (show W4.cell? ⟨gp, j + 1, none⟩ = some (ptr q) ∧ w2.heap.size ≤ W4.heap.size from ⟨cell_later HW34.out S3.out.1, Nat.le_trans S3.out.2 HW34.out.size⟩)
                  clear hW4
                  refine hK.out _ _ (by exact S4.out) (fun hHeld1 => ?_)
                  clear hK K hHeld
                  have hHeld := hHeld1; clear hHeld1
                  try simp only [List.getElem_toArray, List.getElem_cons_succ, List.getElem_cons_zero, Act.put, List.setIfInBounds_toArray, List.set_cons_zero, List.set_cons_succ]
                  refine wpAnyH_ready (rs := [18]) (by kernel_rfl) (by simp) (AllReadyH.cons rfl (fun K hK => ?_) AllReadyH.nil)
                  simp only [List.getElem_toArray, List.getElem_cons_succ, List.getElem_cons_zero]
                  refine wp_append_lies W4 (.tmp 50) (.tmp 55) 73 rfl 0 61 i0 (.pointer none) 1 8 Tryz.underlying73 hi0 hz0 hz1 hz2 rfl (by decide) (.slice Aq nq cq) nq (dq.kids.map ptr) rfl OW.out ⟨w3.heap.size, 0, none⟩ 1 1 [ptr oo] rfl rfl NW.out ONE.out (by decide) (by unfold maxLen; omega) (by omega) (Nat.zero_le _) W4.heap.size rfl ?_
                  intro gn capn WP hown hgrow hat hglt
                  have GR := Lib.hid (show W4.grownBy WP (updV (updV V1 oo s1) n s2 q).ownBlock by rw [VQ3.out]; exact hgrow)
                  have ON := Lib.hid hown
                  have HAT := Lib.hid (show ∀ k, (Value.slice (some ⟨gn, 0, none⟩) (nq + 1) capn).ownBlock = some k → (updV (updV V1 oo s1) n s2 q).ownBlock = some k ∨ k = W4.heap.size from fun k hk => by
                    simp [Value.ownBlock] at hk
                    subst hk
                    rw [VQ3.out]
                    exact hat)
                  have obj := (GR.out.block q (HM4.out.part q dq HQ3.out).lt (fun e => (HM4.out.tags HQ3.out HQ3.out) e.symm)).trans (HM4.out.part q dq HQ3.out).obj
                  have c6 : WP.cell? ⟨q, 6, none⟩ = some (.slice Aq nq cq) := by rw [← VQ3.out]; simp [World.cell?, obj, pdC]
                  have f6 : WP.frozen? ⟨q, 6, none⟩ = false := by simp [World.frozen?, obj]
                  have p0 : WP.cell? ⟨gp, j + 1, none⟩ = some (ptr q) := (World.cell?_of_block (w := W4) (w' := WP) (a := ⟨gp, j + 1, none⟩) (GR.out.block gp GP4.out.1 (fun e => GP4.out.2 (Or.inr ⟨q, dq, HQ3.out, e.symm⟩)))).trans S4.out.1
                  have P0 := Lib.hid p0
                  have SZ := Lib.hid (show w2.heap.size ≤ WP.heap.size from Nat.le_trans S4.out.2 GR.out.size)
                  clear hown hgrow hat hglt obj
                  refine hK.out _ _ (by exact ⟨P0.out, SZ.out⟩) (fun hHeld1 => ?_)
                  clear hK K hHeld
                  have hHeld := hHeld1; clear hHeld1
                  try simp only [List.getElem_toArray, List.getElem_cons_succ, List.getElem_cons_zero, Act.put, List.setIfInBounds_toArray, List.set_cons_zero, List.set_cons_succ]
                  refine wpAnyH_take (i := 19) (v := ?vT219) rfl (by kernel_rfl) (by kernel_rfl) (by kernel_rfl) (fun _ _ _ h => h) (Or.inl ⟨by rfl, ?yT219⟩) hHeld ?rT219
                  case yT219 => (intro W hSw; simp only [List.getElem_toArray, List.getElem_cons_succ, List.getElem_cons_zero]; go_simp; try (with_reducible rfl))
                  simp only [List.getElem_toArray, List.getElem_cons_succ, List.getElem_cons_zero, Act.put, List.setIfInBounds_toArray, List.set_cons_zero, List.set_cons_succ]
                  refine wpAnyH_take (i := 20) (v := ?vT220) rfl (by kernel_rfl) (by kernel_rfl) (by kernel_rfl) (fun _ _ _ h => h) (Or.inl ⟨by rfl, ?yT220⟩) hHeld ?rT220
                  case yT220 => (intro W hSw; simp only [List.getElem_toArray, List.getElem_cons_succ, List.getElem_cons_zero]; go_simp; try (with_reducible rfl))
                  simp only [List.getElem_toArray, List.getElem_cons_succ, List.getElem_cons_zero, Act.put, List.setIfInBounds_toArray, List.set_cons_zero, List.set_cons_succ]
                  refine wpAnyH_ready (rs := [21]) (by kernel_rfl) (by simp) (AllReadyH.cons rfl (fun K hK => ?_) AllReadyH.nil)
                  simp only [List.getElem_toArray, List.getElem_cons_succ, List.getElem_cons_zero]
                  go_simp
                  have P1 := Lib.hid (show (WP.setCell ⟨q, 6, none⟩ (.slice (some ⟨gn, 0, none⟩) (nq + 1) capn)).cell? ⟨gp, j + 1, none⟩ = some (ptr q) from (World.cell?_of_block (w := WP) (w' := _) (a := ⟨gp, j + 1, none⟩) (Below.heap_setCell _ _ _ _ (fun e => GP4.out.2 (Or.inl ⟨dq, by rw [show gp = q from e]; exact HQ3.out⟩)))).trans P0.out)
                  have FIN := Lib.hid (show Nx rl o t mb hx f rt h P E (lvs σ hx x ++ G) gp w σ V (j + 1) u7 (WP.setCell ⟨q, 6, none⟩ (.slice (some ⟨gn, 0, none⟩) (nq + 1) capn)) from by
                    obtain ⟨ho, hon, hp, hS, hL, b1, b2, hk3⟩ := HX3.out
                    exact HC4.out.split h1 h2 hrl HJP.out HJ1.out HU2.out HN.out HQE.out HTOP.out HD2.out ho hon hp hS hL b1 b2 HM3.out rfl hk3 HW34.out HQ3.out GR.out (by rw [List.length_append, List.map_append, ← NQ.out]; exact ON.out) HAT.out)
                  clear p0 c6 f6
                  refine hK.out _ _ (by exact ⟨P1.out, by simpa using SZ.out⟩) (fun hHeld1 => ?_)
                  clear hK K hHeld hHeld1
                  refine wpAnyH_done (by kernel_rfl) ?_ _
                  go_wp2_with fail
                  go_roundw
                  case rel => exact ⟨j + 1, by go_num, FIN.out⟩
                  case measure => simp [intOf]; omega
                · simp only [List.getElem_toArray, List.getElem_cons_succ, List.getElem_cons_zero]
                  go_simp
                  go_at_call 56
                  refine Calls.mono CS.out ?_
                  rintro e w3 ⟨oo, SS, LL, s1, s2, rfl, ho, hon, hp, hS, hL, b1, b2, hM3, hk3⟩
                  unfold ptr
                  try go_wp2_with fail
                  have HM3 := Lib.hid hM3
                  have HX3 := Lib.hid (And.intro ho (And.intro hon (And.intro hp (And.intro hS (And.intro hL (And.intro b1 (And.intro b2 hk3)))))))
                  have hqo : q ≠ oo := fun e => by have := DQ.out; rw [e, hon] at this; cases this
                  have HQ3 := Lib.hid (show (upd (upd σ2 oo ⟨d1.lvl, hull σ2 LL, 0, LL⟩) n { d1 with r := hull σ2 SS, kids := SS }) q = some dq by rw [upd_other _ _ QN.out, upd_other _ _ hqo]; exact DQ.out)
                  have VQ3 := Lib.hid (show updV (updV V1 oo s1) n s2 q = .slice Aq nq cq by rw [updV_other _ _ QN.out, updV_other _ _ hqo]; exact VQ.out)
                  have CQ3 := Lib.hid (show w3.cell? ⟨q, 6, none⟩ = some (.slice Aq nq cq) by rw [← VQ3.out]; exact (HM3.out.part q dq HQ3.out).cells.2.2.2.2.2.2)
                  have st3 : Stp t wd σ2 V1 w3 _ _ := Stp.of_split HD2.out ho b1 b2 hM3 hk3
                  have op3 := st3.out HC4.out.pgt.2.1 HC4.out.pgt.2.2 (by have := HC4.out.tlt; have := HC4.out.pgt.1; omega)
                  have GP3 := Lib.hid (show gp < w3.heap.size ∧ ¬ Foot (upd (upd σ2 oo ⟨d1.lvl, hull σ2 LL, 0, LL⟩) n { d1 with r := hull σ2 SS, kids := SS }) (updV (updV V1 oo s1) n s2) gp from ⟨Nat.lt_of_lt_of_le HC4.out.pgt.2.1 st3.ke.size, op3.2⟩)
                  have S3 := Lib.hid (show w3.cell? ⟨gp, j + 1, none⟩ = some (ptr q) ∧ w2.heap.size ≤ w3.heap.size from ⟨(World.cell?_of_block (w := wd) (w' := w3) (a := ⟨gp, j + 1, none⟩) op3.1).trans hHeld.1, Nat.le_trans hHeld.2 st3.ke.size⟩)
                  clear ho hon hp hS hL b1 b2 hM3 hk3 hqo st3 op3
                  refine hK.out _ _ (by exact S3.out) (fun hHeld1 => ?_)
                  clear hK K hHeld
                  have hHeld := hHeld1; clear hHeld1
                  try simp only [List.getElem_toArray, List.getElem_cons_succ, List.getElem_cons_zero, Act.put, List.setIfInBounds_toArray, List.set_cons_zero, List.set_cons_succ]
                  refine wpAnyH_ready (rs := [12, 17]) (by kernel_rfl) (by simp) (AllReadyH.cons rfl (fun K hK => ?_) (AllReadyH.cons rfl (fun K hK => ?_) AllReadyH.nil))
                  · simp only [List.getElem_toArray, List.getElem_cons_succ, List.getElem_cons_zero]
                    have c6 := CQ3.out
                    go_simp
                    clear c6
                    refine hK.out _ _ (by exact hHeld) (fun hHeld1 => ?_)
                    clear hK K hHeld
                    have hHeld := hHeld1; clear hHeld1
                    try simp only [List.getElem_toArray, List.getElem_cons_succ, List.getElem_cons_zero, Act.put, List.setIfInBounds_toArray, List.set_cons_zero, List.set_cons_succ]
                    refine wpAnyH_ready (rs := [17]) (by kernel_rfl) (by simp) (AllReadyH.cons rfl (fun K hK => ?_) AllReadyH.nil)
                    simp only [List.getElem_toArray, List.getElem_cons_succ, List.getElem_cons_zero]
                    go_simp
                    obtain ⟨W4, hW4⟩ : ∃ v, v = w3.alloc (.cells #[.pointer (some ⟨oo, 0, none⟩)] 61) := ⟨_, rfl⟩
                    rw [← hW4]
                    have HW34 := Lib.hid (show Below w3.heap.size w3 W4 by rw [hW4]; exact (Below.refl _ _).alloc (Nat.le_refl _) _)
                    have HM4 := Lib.hid (HM3.out.later HW34.out)
                    have CQ4 := Lib.hid (cell_later HW34.out CQ3.out)
                    have OW := Lib.hid (show W4.ownsRow 0 61 1 (.slice Aq nq cq) nq (dq.kids.map ptr) by have := (HM4.out.part q dq HQ3.out).row; rw [VQ3.out, ← NQ.out] at this; exact this)
                    have GP4 := Lib.hid (show gp < W4.heap.size ∧ ¬ Foot (upd (upd σ2 oo ⟨d1.lvl, hull σ2 LL, 0, LL⟩) n { d1 with r := hull σ2 SS, kids := SS }) (updV (updV V1 oo s1) n s2) gp from ⟨Nat.lt_of_lt_of_le GP3.out.1 HW34.out.size, GP3.out.2⟩)
                    have NW := Lib.hid (show ∀ j u, ([ptr oo] : List Value)[j]? = some u → W4.cell? ((⟨w3.heap.size, 0, none⟩ : Addr).add j) = some u from fun j u hj => by
                      rw [hW4]
                      match j, hj with
                      | 0, hj => simp [ptr] at hj; subst hj; simp [Addr.add, go_sem]
                      | j + 1, hj => simp at hj)
                    have ONE := Lib.hid (show ∀ u ∈ ([ptr oo] : List Value), u.oneCell' = true from fun u hu => by simp at hu; subst hu; rfl)
                    have S4 := Lib.hid (show W4.cell? ⟨gp, j + 1, none⟩ = some (ptr q) ∧ w2.heap.size ≤ W4.heap.size from ⟨cell_later HW34.out S3.out.1, Nat.le_trans S3.out.2 HW34.out.size⟩)
                    clear hW4
                    refine hK.out _ _ (by exact S4.out) (fun hHeld1 => ?_)
                    clear hK K hHeld
                    have hHeld := hHeld1; clear hHeld1
                    try simp only [List.getElem_toArray, List.getElem_cons_succ, List.getElem_cons_zero, Act.put, List.setIfInBounds_toArray, List.set_cons_zero, List.set_cons_succ]
                    refine wpAnyH_ready (rs := [18]) (by kernel_rfl) (by simp) (AllReadyH.cons rfl (fun K hK => ?_) AllReadyH.nil)
                    simp only [List.getElem_toArray, List.getElem_cons_succ, List.getElem_cons_zero]
                    refine wp_append_lies W4 (.tmp 50) (.tmp 55) 73 rfl 0 61 i0 (.pointer none) 1 8 Tryz.underlying73 hi0 hz0 hz1 hz2 rfl (by decide) (.slice Aq nq cq) nq (dq.kids.map ptr) rfl OW.out ⟨w3.heap.size, 0, none⟩ 1 1 [ptr oo] rfl rfl NW.out ONE.out (by decide) (by unfold maxLen; omega) (by omega) (Nat.zero_le _) W4.heap.size rfl ?_
                    intro gn capn WP hown hgrow hat hglt
                    have GR := Lib.hid (show W4.grownBy WP (updV (updV V1 oo s1) n s2 q).ownBlock by rw [VQ3.out]; exact hgrow)
                    have ON := Lib.hid hown
                    have HAT := Lib.hid (show ∀ k, (Value.slice (some ⟨gn, 0, none⟩) (nq + 1) capn).ownBlock = some k → (updV (updV V1 oo s1) n s2 q).ownBlock = some k ∨ k = W4.heap.size from fun k hk => by
                      simp [Value.ownBlock] at hk
                      subst hk
                      rw [VQ3.out]
                      exact hat)
                    have obj := (GR.out.block q (HM4.out.part q dq HQ3.out).lt (fun e => (HM4.out.tags HQ3.out HQ3.out) e.symm)).trans (HM4.out.part q dq HQ3.out).obj
                    have c6 : WP.cell? ⟨q, 6, none⟩ = some (.slice Aq nq cq) := by rw [← VQ3.out]; simp [World.cell?, obj, pdC]
                    have f6 : WP.frozen? ⟨q, 6, none⟩ = false := by simp [World.frozen?, obj]
                    have p0 : WP.cell? ⟨gp, j + 1, none⟩ = some (ptr q) := (World.cell?_of_block (w := W4) (w' := WP) (a := ⟨gp, j + 1, none⟩) (GR.out.block gp GP4.out.1 (fun e => GP4.out.2 (Or.inr ⟨q, dq, HQ3.out, e.symm⟩)))).trans S4.out.1
                    have P0 := Lib.hid p0
                    have SZ := Lib.hid (show w2.heap.size ≤ WP.heap.size from Nat.le_trans S4.out.2 GR.out.size)
                    clear hown hgrow hat hglt obj
                    refine hK.out _ _ (by exact ⟨P0.out, SZ.out⟩) (fun hHeld1 => ?_)
                    clear hK K hHeld
                    have hHeld := hHeld1; clear hHeld1
                    try simp only [List.getElem_toArray, List.getElem_cons_succ, List.getElem_cons_zero, Act.put, List.setIfInBounds_toArray, List.set_cons_zero, List.set_cons_succ]
                    refine wpAnyH_take (i := 19) (v := ?vT319) rfl (by kernel_rfl) (by kernel_rfl) (by kernel_rfl) (fun _ _ _ h => h) (Or.inl ⟨by rfl, ?yT319⟩) hHeld ?rT319
                    case yT319 => (intro W hSw; simp only [List.getElem_toArray, List.getElem_cons_succ, List.getElem_cons_zero]; go_simp; try (with_reducible rfl))
                    simp only [List.getElem_toArray, List.getElem_cons_succ, List.getElem_cons_zero, Act.put, List.setIfInBounds_toArray, List.set_cons_zero, List.set_cons_succ]
                    refine wpAnyH_take (i := 20) (v := ?vT320) rfl (by kernel_rfl) (by kernel_rfl) (by kernel_rfl) (fun _ _ _ h => h) (Or.inl ⟨by rfl, ?yT320⟩) hHeld ?rT320
                    case yT320 => (intro W hSw; simp only [List.getElem_toArray, List.getElem_cons_succ, List.getElem_cons_zero]; go_simp; try (with_reducible rfl))
                    simp only [List.getElem_toArray, List.getElem_cons_succ, List.getElem_cons_zero, Act.put, List.setIfInBounds_toArray, List.set_cons_zero, List.set_cons_succ]
                    refine wpAnyH_ready (rs := [21]) (by kernel_rfl) (by simp) (AllReadyH.cons rfl (fun K hK => ?_) AllReadyH.nil)
                    simp only [List.getElem_toArray, List.getElem_cons_succ, List.getElem_cons_zero]
                    go_simp
                    have P1 := Lib.hid (show (WP.setCell ⟨q, 6, none⟩ (.slice (some ⟨gn, 0, none⟩) (nq + 1) capn)).cell? ⟨gp, j + 1, none⟩ = some (ptr q) from (World.cell?_of_block (w := WP) (w' := _) (a := ⟨gp, j + 1, none⟩) (Below.heap_setCell _ _ _ _ (fun e => GP4.out.2 (Or.inl ⟨dq, by rw [show gp = q from e]; exact HQ3.out⟩)))).trans P0.out)
                    have FIN := Lib.hid (show Nx rl o t mb hx f rt h P E (lvs σ hx x ++ G) gp w σ V (j + 1) u7 (WP.setCell ⟨q, 6, none⟩ (.slice (some ⟨gn, 0, none⟩) (nq + 1) capn)) from by
                      obtain ⟨ho, hon, hp, hS, hL, b1, b2, hk3⟩ := HX3.out
                      exact HC4.out.split h1 h2 hrl HJP.out HJ1.out HU2.out HN.out HQE.out HTOP.out HD2.out ho hon hp hS hL b1 b2 HM3.out rfl hk3 HW34.out HQ3.out GR.out (by rw [List.length_append, List.map_append, ← NQ.out]; exact ON.out) HAT.out)
                    clear p0 c6 f6
                    refine hK.out _ _ (by exact ⟨P1.out, by simpa using SZ.out⟩) (fun hHeld1 => ?_)
                    clear hK K hHeld hHeld1
                    refine wpAnyH_done (by kernel_rfl) ?_ _
                    go_wp2_with fail
                    go_roundw
                    case rel => exact ⟨j + 1, by go_num, FIN.out⟩
                    case measure => simp [intOf]; omega
                  · simp only [List.getElem_toArray, List.getElem_cons_succ, List.getElem_cons_zero]
                    go_simp
                    obtain ⟨W4, hW4⟩ : ∃ v, v = w3.alloc (.cells #[.pointer (some ⟨oo, 0, none⟩)] 61) := ⟨_, rfl⟩
                    rw [← hW4]
                    have HW34 := Lib.hid (show Below w3.heap.size w3 W4 by rw [hW4]; exact (Below.refl _ _).alloc (Nat.le_refl _) _)
                    have HM4 := Lib.hid (HM3.out.later HW34.out)
                    have CQ4 := Lib.hid (cell_later HW34.out CQ3.out)
                    have OW := Lib.hid (show W4.ownsRow 0 61 1 (.slice Aq nq cq) nq (dq.kids.map ptr) by have := (HM4.out.part q dq HQ3.out).row; rw [VQ3.out, ← NQ.out] at this; exact this)
                    have GP4 := Lib.hid (show gp < W4.heap.size ∧ ¬ Foot (upd (upd σ2 oo ⟨d1.lvl, hull σ2 LL, 0, LL⟩) n { d1 with r := hull σ2 SS, kids := SS }) (updV (updV V1 oo s1) n s2) gp from ⟨Nat.lt_of_lt_of_le GP3.out.1 HW34.out.size, GP3.out.2⟩)
                    have NW := Lib.hid (show ∀ j u, ([ptr oo] : List Value)[j]? = some u → W4.cell? ((⟨w3.heap.size, 0, none⟩ : Addr).add j) = some u from fun j u hj => by
                      rw [hW4]
                      match j, hj with
                      | 0, hj => simp [ptr] at hj; subst hj; simp [Addr.add, go_sem]
                      | j + 1, hj => simp at hj)
                    have ONE := Lib.hid (show ∀ u ∈ ([ptr oo] : List Value), u.oneCell' = true from fun u hu => by simp at hu; subst hu; rfl)
                    have S4 := Lib.hid (show W4.cell? ⟨gp, j + 1, none⟩ = some (ptr q) ∧ w2.heap.size ≤ W4.heap.size from ⟨cell_later HW34.out S3.out.1, Nat.le_trans S3.out.2 HW34.out.size⟩)
                    clear hW4
                    refine hK.out _ _ (by exact S4.out) (fun hHeld1 => ?_)
                    clear hK K hHeld
                    have hHeld := hHeld1; clear hHeld1
                    try simp only [List.getElem_toArray, List.getElem_cons_succ, List.getElem_cons_zero, Act.put, List.setIfInBounds_toArray, List.set_cons_zero, List.set_cons_succ]
                    refine wpAnyH_ready (rs := [12]) (by kernel_rfl) (by simp) (AllReadyH.cons rfl (fun K hK => ?_) AllReadyH.nil)
                    simp only [List.getElem_toArray, List.getElem_cons_succ, List.getElem_cons_zero]
                    have c6 := CQ4.out
                    go_simp
                    clear c6
                    refine hK.out _ _ (by exact hHeld) (fun hHeld1 => ?_)
                    clear hK K hHeld
                    have hHeld := hHeld1; clear hHeld1
                    try simp only [List.getElem_toArray, List.getElem_cons_succ, List.getElem_cons_zero, Act.put, List.setIfInBounds_toArray, List.set_cons_zero, List.set_cons_succ]
                    refine wpAnyH_ready (rs := [18]) (by kernel_rfl) (by simp) (AllReadyH.cons rfl (fun K hK => ?_) AllReadyH.nil)
                    simp only [List.getElem_toArray, List.getElem_cons_succ, List.getElem_cons_zero]
                    refine wp_append_lies W4 (.tmp 50) (.tmp 55) 73 rfl 0 61 i0 (.pointer none) 1 8 Tryz.underlying73 hi0 hz0 hz1 hz2 rfl (by decide) (.slice Aq nq cq) nq (dq.kids.map ptr) rfl OW.out ⟨w3.heap.size, 0, none⟩ 1 1 [ptr oo] rfl rfl NW.out ONE.out (by decide) (by unfold maxLen; omega) (by omega) (Nat.zero_le _) W4.heap.size rfl ?_
                    intro gn capn WP hown hgrow hat hglt
                    have GR := Lib.hid (show W4.grownBy WP (updV (updV V1 oo s1) n s2 q).ownBlock by rw [VQ3.out]; exact hgrow)
                    have ON := Lib.hid hown
                    have HAT := Lib.hid (show ∀ k, (Value.slice (some ⟨gn, 0, none⟩) (nq + 1) capn).ownBlock = some k → (updV (updV V1 oo s1) n s2 q).ownBlock = some k ∨ k = W4.heap.size from fun k hk => by
                      simp [Value.ownBlock] at hk
                      subst hk
                      rw [VQ3.out]
                      exact hat)
                    have obj := (GR.out.block q (HM4.out.part q dq HQ3.out).lt (fun e => (HM4.out.tags HQ3.out HQ3.out) e.symm)).trans (HM4.out.part q dq HQ3.out).obj
                    have c6 : WP.cell? ⟨q, 6, none⟩ = some (.slice Aq nq cq) := by rw [← VQ3.out]; simp [World.cell?, obj, pdC]
                    have f6 : WP.frozen? ⟨q, 6, none⟩ = false := by simp [World.frozen?, obj]
                    have p0 : WP.cell? ⟨gp, j + 1, none⟩ = some (ptr q) := (World.cell?_of_block (w := W4) (w' := WP) (a := ⟨gp, j + 1, none⟩) (GR.out.block gp GP4.out.1 (fun e => GP4.out.2 (Or.inr ⟨q, dq, HQ3.out, e.symm⟩)))).trans S4.out.1
                    have P0 := Lib.hid p0
                    have SZ := Lib.hid (show w2.heap.size ≤ WP.heap.size from Nat.le_trans S4.out.2 GR.out.size)
                    clear hown hgrow hat hglt obj
                    refine hK.out _ _ (by exact ⟨P0.out, SZ.out⟩) (fun hHeld1 => ?_)
                    clear hK K hHeld
                    have hHeld := hHeld1; clear hHeld1
                    try simp only [List.getElem_toArray, List.getElem_cons_succ, List.getElem_cons_zero, Act.put, List.setIfInBounds_toArray, List.set_cons_zero, List.set_cons_succ]
                    refine wpAnyH_take (i := 19) (v := ?vT419) rfl (by kernel_rfl) (by kernel_rfl) (by kernel_rfl) (fun _ _ _ h => h) (Or.inl ⟨by rfl, ?yT419⟩) hHeld ?rT419
                    case yT419 => (intro W hSw; simp only [List.getElem_toArray, List.getElem_cons_succ, List.getElem_cons_zero]; go_simp; try (with_reducible rfl))
                    simp only [List.getElem_toArray, List.getElem_cons_succ, List.getElem_cons_zero, Act.put, List.setIfInBounds_toArray, List.set_cons_zero, List.set_cons_succ]
                    refine wpAnyH_take (i := 20) (v := ?vT420) rfl (by kernel_rfl) (by kernel_rfl) (by kernel_rfl) (fun _ _ _ h => h) (Or.inl ⟨by rfl, ?yT420⟩) hHeld ?rT420
                    case yT420 => (intro W hSw; simp only [List.getElem_toArray, List.getElem_cons_succ, List.getElem_cons_zero]; go_simp; try (with_reducible rfl))
                    simp only [List.getElem_toArray, List.getElem_cons_succ, List.getElem_cons_zero, Act.put, List.setIfInBounds_toArray, List.set_cons_zero, List.set_cons_succ]
                    refine wpAnyH_ready (rs := [21]) (by kernel_rfl) (by simp) (AllReadyH.cons rfl (fun K hK => ?_) AllReadyH.nil)
                    simp only [List.getElem_toArray, List.getElem_cons_succ, List.getElem_cons_zero]
                    go_simp
                    have P1 := Lib.hid (show (WP.setCell ⟨q, 6, none⟩ (.slice (some ⟨gn, 0, none⟩) (nq + 1) capn)).cell? ⟨gp, j + 1, none⟩ = some (ptr q) from (World.cell?_of_block (w := WP) (w' := _) (a := ⟨gp, j + 1, none⟩) (Below.heap_setCell _ _ _ _ (fun e => GP4.out.2 (Or.inl ⟨dq, by rw [show gp = q from e]; exact HQ3.out⟩)))).trans P0.out)
                    have FIN := Lib.hid (show Nx rl o t mb hx f rt h P E (lvs σ hx x ++ G) gp w σ V (j + 1) u7 (WP.setCell ⟨q, 6, none⟩ (.slice (some ⟨gn, 0, none⟩) (nq + 1) capn)) from by
                      obtain ⟨ho, hon, hp, hS, hL, b1, b2, hk3⟩ := HX3.out
                      exact HC4.out.split h1 h2 hrl HJP.out HJ1.out HU2.out HN.out HQE.out HTOP.out HD2.out ho hon hp hS hL b1 b2 HM3.out rfl hk3 HW34.out HQ3.out GR.out (by rw [List.length_append, List.map_append, ← NQ.out]; exact ON.out) HAT.out)
                    clear p0 c6 f6
                    refine hK.out _ _ (by exact ⟨P1.out, by simpa using SZ.out⟩) (fun hHeld1 => ?_)
                    clear hK K hHeld hHeld1
                    refine wpAnyH_done (by kernel_rfl) ?_ _
                    go_wp2_with fail
                    go_roundw
                    case rel => exact ⟨j + 1, by go_num, FIN.out⟩
                    case measure => simp [intOf]; omega
      · have hlz : ¬ (j : Int) < (m : Int) := by omega
        obtain ⟨σ1, V1, A, G1, rt, c, hdis⟩ := HNX.out
        rcases hdis with ⟨hj2, _⟩ | ⟨hj2, H', hH', ht⟩
        · rw [HMP.out] at hj2; omega
        have HC := Lib.hid c
        have FT := Lib.hid (And.intro hH' ht)
        clear c hH' ht
        go_wp2_with fail
        go_ret
        refine ⟨σ1, V1, A, G1, rt, H', _, rfl, HC.out.stp, HC.out.tree, HC.out.kps, HC.out.row, HC.out.apart, HC.out.shed.imp id (fun q => ⟨q.1, q.2.2⟩), HC.out.nd, HC.out.perm, FT.out.1, FT.out.2⟩
end Go.Proofs.YtobkgamcjfjghaaGreat.Rt
