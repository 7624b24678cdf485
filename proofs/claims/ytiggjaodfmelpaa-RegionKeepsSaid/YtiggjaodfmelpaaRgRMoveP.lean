/-
  Contract of the document's Move of layer 16 (region). Memory that was there is left as it was; the points that it tells lie in a new block.
-/
import Derived.Test.YtiggjaodfmelpaaRgRMove
import Derived.Deep.CutRange
import Derived.Test.YtiggjaodfmelpaaPlOwn
namespace Go.Proofs.Ytiggjaodfmelpaa.Rg
open Go.RowKit Go.Proofs.Ytiggjaodfmelpaa.Pt Go.Proofs.Ytiggjaodfmelpaa.Rc Go.Proofs.Ytiggjaodfmelpaa.Pts Go.Proofs.Ytiggjaodfmelpaa.Pl
set_option linter.unusedVariables false
set_option linter.unusedSimpArgs false

/-- What add tells of a point, in a new block. -/
def AdC (wr : World) (p v : Pnt) (s13 s14 : Value) (wx : World) : Prop :=
  ∃ (g : Nat) (x y : Int), s13 = .pointer (some ⟨g, 0, none⟩) ∧ s14 = .bool (stepB v p) ∧ (stepB v p = true → x = p.1 + v.1 ∧ y = p.2 + v.2) ∧ wr.heap.size ≤ g ∧ Pt2 wx g x y ∧ Below wr.heap.size wr wx
theorem Pt2.drewd {W : World} {g : Nat} {x y : Int} (h : Pt2 W g x y) : Pt2 W.drew g x y := h
theorem own_beside {W : World} {base n r i : Nat} {t : TypeId} {v : Value} {xs : List Value} (h : W.ownsRow base t 2 v n xs) (hr : r < W.heap.size) (hb : r < base) (x : Value) : (W.setCell ⟨r, i, none⟩ x).ownsRow base t 2 v n xs :=
  ownsRow_setCell_below h hb x
/-- A region of the call's own in block o, whose points are a row of its own. -/
structure Ro (W : World) (o : Nat) (sv : Value) (ps : List Pnt) : Prop where
  row : W.ownsRow (o + 1) 28 2 sv ps.length (cellsL ps)
  c0 : W.cell? ⟨o, 0, none⟩ = some (.int .i64 0)
  c1 : W.cell? ⟨o, 1, none⟩ = some (.int .i64 0)
  c2 : W.cell? ⟨o, 2, none⟩ = some (.int .i64 0)
  c3 : W.cell? ⟨o, 3, none⟩ = some (.int .i64 0)
  c4 : W.cell? ⟨o, 4, none⟩ = some sv
  soft : ∀ i, W.frozen? ⟨o, i, none⟩ = false
  lt : o < W.heap.size
theorem Ro.later {W V : World} {o : Nat} {sv : Value} {ps : List Pnt} (h : Ro W o sv ps) (hb : Below W.heap.size W V) : Ro V o sv ps :=
  ⟨own_later h.row hb, cell_later hb h.c0, cell_later hb h.c1, cell_later hb h.c2, cell_later hb h.c3, cell_later hb h.c4, Kp.soft hb h.lt h.soft, Nat.lt_of_lt_of_le h.lt hb.size⟩
theorem Ro.start (W : World) : Ro (W.alloc (.cells #[.int .i64 0, .int .i64 0, .int .i64 0, .int .i64 0, .slice none 0 0] 26)) W.heap.size (.slice none 0 0) [] := by
  refine ⟨World.ownsRow_nil _ _ _ _, ?_, ?_, ?_, ?_, ?_, Kp.newsoft _ _ rfl _ _, by simp⟩ <;> simp [go_sem]
/-- Another row is its row now: it lies beside o. -/
theorem Ro.grown {W V : World} {o : Nat} {sv sv2 : Value} {ps : List Pnt} {p : Pnt} (h : Ro W o sv ps) (ho : V.ownsRow (o + 1) 28 2 sv2 (ps.length + 1) (cellsL ps ++ [.int .i64 p.1, .int .i64 p.2])) (hg : W.grownBy V sv.ownBlock) :
    Ro (V.setCell ⟨o, 4, none⟩ sv2) o sv2 (ps ++ [p]) ∧ (V.cell? ⟨o, 4, none⟩ = some sv) ∧ (∀ i, V.frozen? ⟨o, i, none⟩ = false) ∧ o < V.heap.size := by
  have hne : some o ≠ sv.ownBlock := fun e => by
    have := (own_lt h.row e.symm).2
    omega
  have hblk := hg.block o h.lt hne
  have hc : ∀ i, V.cell? ⟨o, i, none⟩ = W.cell? ⟨o, i, none⟩ := fun i => World.cell?_of_block (a := ⟨o, i, none⟩) hblk
  have hf : ∀ i, V.frozen? ⟨o, i, none⟩ = W.frozen? ⟨o, i, none⟩ := fun i => World.frozen?_of_block (a := ⟨o, i, none⟩) hblk
  have hl : o < V.heap.size := Nat.lt_of_lt_of_le h.lt hg.size
  have d0 := (hc 0).trans h.c0
  have d1 := (hc 1).trans h.c1
  have d2 := (hc 2).trans h.c2
  have d3 := (hc 3).trans h.c3
  have d4 := (hc 4).trans h.c4
  have ff := fun i => (hf i).trans (h.soft i)
  have hro : (V.setCell ⟨o, 4, none⟩ sv2).ownsRow (o + 1) 28 2 sv2 (ps ++ [p]).length (cellsL (ps ++ [p])) := by
    rw [cellsL_app, List.length_append]
    exact own_beside ho hl (by omega) _
  refine ⟨⟨hro, ?_, ?_, ?_, ?_, World.cell?_setCell_same' _ _ _ (by rw [d4]; rfl), fun i => by rw [frozen_set]; exact ff i, by simpa using hl⟩, d4, ff, hl⟩
  all_goals
    rw [World.cell?_setCell_other _ _ _ _ (fun e => absurd (congrArg Addr.off e) (by simp))]
    assumption

def MvR (w1 : World) (l : List Pnt) (v : Pnt) (i : Value) (wr : World) : Prop :=
  ∃ (j : Nat) (sv : Value), j ≤ l.length ∧ i = .int .i64 j ∧ (∀ t (ht : t < l.length), t < j → stepB v l[t] = true) ∧ Ro wr w1.heap.size sv (moveL (l.take j) v) ∧ Below w1.heap.size w1 wr

set_option maxHeartbeats 8000000 in
set_option maxRecDepth 100000 in
theorem refMove_poly (a b c d : Int) (l : List Pnt) (A : Option Addr) (k : Nat) (v : Pnt) (w : World) (hA : PtsAt w w.heap.size A l) (h0 : 0 < l.length) (hn : l.length ≤ 70) (hg : rgB a b c d l = true) :
    Calls Try.prog 17 #[.agg #[.int .i64 a, .int .i64 b, .int .i64 c, .int .i64 d, .slice A l.length k], .agg #[.int .i64 v.1, .int .i64 v.2]] w fun e w' => Below w.heap.size w w' ∧
      ((fineB l v = true ∧ ∃ g q, e = .returned (.tuple #[.agg #[.int .i64 0, .int .i64 0, .int .i64 0, .int .i64 0, .slice (some ⟨g, 0, none⟩) l.length q], .int .i64 0]) ∧ PtsAt w' w'.heap.size (some ⟨g, 0, none⟩) (moveL l v) ∧ w.heap.size ≤ g) ∨
       (fineB l v = false ∧ e = .returned (.tuple #[.agg #[.int .i64 0, .int .i64 0, .int .i64 0, .int .i64 0, .slice none 0 0], .int .i64 11]))) := by
  have C1 := Lib.hid (fun W (h : Below w.heap.size w W) => refRegion_any a b c d l A k W ((hA.later h).wide h.size) hn)
  rw [hg] at C1
  have HM := Lib.hid (simpleB_all (rgB_simple h0 hg).2).1
  have HA := Lib.hid hA
  obtain ⟨b0, off, rfl, hbb, hc⟩ := hA (by intro e; rw [e] at h0; simp at h0)
  have HC := Lib.hid hc
  obtain ⟨n, e⟩ : ∃ n, n = l.length := ⟨_, rfl⟩
  rw [← e] at C1 h0 hn ⊢
  have HN := Lib.hid e
  clear e hA hg hc
  have h2 : ((n : Int) == 0) = false := by simp; omega
  obtain ⟨i0, hi, hz0, hz1, hz2⟩ := info_parts A.infoPt
  have L0 := (fun h => Kp.ad50 h w.heap.size rfl (.int .i64 a) (.int .i64 b) (.int .i64 c) (.int .i64 d) (.slice (some ⟨b0, off, none⟩) n k) 26) ⟨Nat.le_refl _, Below.refl w.heap.size w⟩
  have L1 := (Kp.two (Kp.behind _ (.cells #[.int .i64 v.1, .int .i64 v.2] 28)) (Kp.two (Kp.behind _ (.cells #[.int .i64 v.1, .int .i64 v.2] 28)) (Kp.one (Kp.behind _ (.cells #[.int .i64 v.1, .int .i64 v.2] 28)) (fun h => Kp.add0 h (w.heap.size + 1) (by simp) (.int .i64 v.1) (.int .i64 v.2) 28)))) L0
  have L2 := (Kp.two (Kp.behind _ (.cells #[.int .i64 0, .int .i64 0, .int .i64 0, .int .i64 0, .slice none 0 0] 26)) (Kp.two (Kp.behind _ (.cells #[.int .i64 0, .int .i64 0, .int .i64 0, .int .i64 0, .slice none 0 0] 26)) (Kp.two (Kp.behind _ (.cells #[.int .i64 0, .int .i64 0, .int .i64 0, .int .i64 0, .slice none 0 0] 26)) (Kp.one (Kp.behind _ (.cells #[.int .i64 0, .int .i64 0, .int .i64 0, .int .i64 0, .slice none 0 0] 26)) (fun h => Kp.ad50 h (w.heap.size + 1 + 1) (by simp) (.int .i64 0) (.int .i64 0) (.int .i64 0) (.int .i64 0) (.slice none 0 0) 26))))) L1
  have L := Lib.hid L2
  clear L0 L1 L2
  have z := L.out
  have F0 : ∀ o, (((w.alloc (.cells #[.int .i64 a, .int .i64 b, .int .i64 c, .int .i64 d, .slice (some ⟨b0, off, none⟩) n k] 26)).alloc (.cells #[.int .i64 v.1, .int .i64 v.2] 28)).alloc (.cells #[.int .i64 0, .int .i64 0, .int .i64 0, .int .i64 0, .slice none 0 0] 26)).frozen? ⟨w.heap.size + 1 + 1, o, none⟩ = false := Kp.newsoft _ _ (by simp) _ _
  have Z0 : w.heap.size + 1 + 1 < (((w.alloc (.cells #[.int .i64 a, .int .i64 b, .int .i64 c, .int .i64 d, .slice (some ⟨b0, off, none⟩) n k] 26)).alloc (.cells #[.int .i64 v.1, .int .i64 v.2] 28)).alloc (.cells #[.int .i64 0, .int .i64 0, .int .i64 0, .int .i64 0, .slice none 0 0] 26)).heap.size := by simp
  go_enter Try.func17, Try.ntmps17
  go_wp2_with fail
  refine (C1.out _ L.out.2.2.2.2.2.2.2.2.2.2.2.2.2).mono ?_
  rintro e w1 ⟨rfl, hb1⟩
  have K1 := Lib.hid ((Kp.two hb1 (Kp.two hb1 (Kp.two hb1 (Kp.two hb1 (Kp.two hb1 (Kp.two hb1 (Kp.ends hb1))))))) L.out)
  have z1 := K1.out
  have F1 := Kp.soft hb1 Z0 F0
  have Z1 : w.heap.size + 1 + 1 < w1.heap.size := Nat.lt_of_lt_of_le Z0 hb1.size
  clear hb1 z L F0 Z0 C1
  go_wp2_with fail
  have LOW := Lib.hid (K1.out.2.2.2.2.2.2.2.2.2.2.2.2.2)
  go_loopw [12] (fun i wr => MvR w1 l v i wr) (fun i _ => n - (intOf i).toNat)
  case atStart => exact ⟨0, .slice none 0 0, Nat.zero_le _, rfl, fun t _ h => absurd h (Nat.not_lt_zero _), Ro.start w1, Kp.behind _ _⟩
  case round =>
    obtain ⟨j, sv, hj, rfl, hok, hR, hB⟩ := hrel
    rw [← HN.out] at hj
    have HOK := Lib.hid hok
    have HR := Lib.hid hR
    have K := Lib.hid ((Kp.two hB (Kp.two hB (Kp.two hB (Kp.two hB (Kp.two hB (Kp.two hB (Kp.ends hB))))))) K1.out)
    have F := Kp.soft hB Z1 F1
    have Z : w.heap.size + 1 + 1 < wr.heap.size := Nat.lt_of_lt_of_le Z1 hB.size
    have HBB := Lib.hid hB
    clear hok hR hB z1
    have z := K.out
    by_cases hlt : j < n
    · have hlz : (j : Int) < (n : Int) := by omega
      have hj0 : (0 : Int) ≤ (j : Int) := by omega
      have hkl : j < l.length := by rw [← HN.out]; exact hlt
      obtain ⟨p, hp⟩ : ∃ p, p = l[j] := ⟨_, rfl⟩
      have MP : pmay p = true := by rw [hp]; exact List.all_eq_true.1 HM.out _ (List.getElem_mem hkl)
      have CA := Lib.hid (fun W => refAdd_any p v W MP)
      have HS : Hid (∀ W, Below wr.heap.size wr W → W.cell? ⟨w.heap.size, 4, none⟩ = some (.slice (some ⟨b0, off, none⟩) n k) ∧ W.cell? ⟨w.heap.size + 1, 0, none⟩ = some (.int .i64 v.1) ∧ W.cell? ⟨w.heap.size + 1, 1, none⟩ = some (.int .i64 v.2) ∧ W.cell? ⟨b0, off + j * 2, none⟩ = some (.int .i64 p.1) ∧ W.cell? ⟨b0, off + j * 2 + 1, none⟩ = some (.int .i64 p.2) ∧ Below wr.heap.size wr W) := Lib.hid fun W hW => by
        have hWw : Below w.heap.size w W := (K.out.2.2.2.2.2.2.2.2.2.2.2.2.2).trans (hW.mono (K.out.2.2.2.2.2.2.2.2.2.2.2.2.2).size)
        refine ⟨cell_later hW K.out.2.2.2.2.1, cell_later hW K.out.2.2.2.2.2.1, cell_later hW K.out.2.2.2.2.2.2.1, ?_, ?_, hW⟩
        · rw [hp]; exact (hWw.cell (p := ⟨b0, off + j * 2, none⟩) hbb).trans (HC.out j hkl).1
        · rw [hp]; exact (hWw.cell (p := ⟨b0, off + j * 2 + 1, none⟩) hbb).trans (HC.out j hkl).2
      have HP := Lib.hid hp
      clear hp MP
      go_wp2_with fail
      go_cut [13, 14] from 65 to 90 (fun s13 s14 wx => AdC wr p v s13 s14 wx)
      case first =>
        clear z F
        refine wp_region_held_drew (S := (fun W => W.cell? ⟨w.heap.size, 4, none⟩ = some (.slice (some ⟨b0, off, none⟩) n k) ∧ W.cell? ⟨w.heap.size + 1, 0, none⟩ = some (.int .i64 v.1) ∧ W.cell? ⟨w.heap.size + 1, 1, none⟩ = some (.int .i64 v.2) ∧ W.cell? ⟨b0, off + j * 2, none⟩ = some (.int .i64 p.1) ∧ W.cell? ⟨b0, off + j * 2 + 1, none⟩ = some (.int .i64 p.2) ∧ Below wr.heap.size wr W)) (by kernel_rfl) (HS.out _ (Below.drew (Below.refl _ _))) (fun hHeld => ?_)
        refine wpAnyH_take (i := 0) (v := ?v0) rfl (by kernel_rfl) (by kernel_rfl) (by kernel_rfl) (fun _ _ _ h => h) (Or.inl ⟨by rfl, ?y0⟩) hHeld ?r0
        case y0 => (intro W hSw; simp only [List.getElem_toArray, List.getElem_cons_zero]; go_simp; try (with_reducible rfl))
        simp only [List.getElem_toArray, List.getElem_cons_zero, Act.put, List.setIfInBounds_toArray, List.set_cons_zero, List.set_cons_succ]
        refine wpAnyH_take (i := 1) (v := ?v1) rfl (by kernel_rfl) (by kernel_rfl) (by kernel_rfl) (fun _ _ _ h => h) (Or.inl ⟨by rfl, ?y1⟩) hHeld ?r1
        case y1 => (intro W hSw; simp only [List.getElem_toArray, List.getElem_cons_succ, List.getElem_cons_zero]; go_simp; try (with_reducible rfl))
        simp only [List.getElem_toArray, List.getElem_cons_succ, List.getElem_cons_zero, Act.put, List.setIfInBounds_toArray, List.set_cons_zero, List.set_cons_succ]
        refine wpAnyH_take (i := 2) (v := ?v2) rfl (by kernel_rfl) (by kernel_rfl) (by kernel_rfl) (fun _ _ _ h => h) (Or.inl ⟨by rfl, ?y2⟩) hHeld ?r2
        case y2 => (intro W hSw; simp only [List.getElem_toArray, List.getElem_cons_succ, List.getElem_cons_zero]; go_simp; try (with_reducible rfl))
        simp only [List.getElem_toArray, List.getElem_cons_succ, List.getElem_cons_zero, Act.put, List.setIfInBounds_toArray, List.set_cons_zero, List.set_cons_succ]
        refine wpAnyH_take (i := 3) (v := ?v3) rfl (by kernel_rfl) (by kernel_rfl) (by kernel_rfl) (fun _ _ _ h => h) (Or.inl ⟨by rfl, ?y3⟩) hHeld ?r3
        case y3 => (intro W hSw; simp only [List.getElem_toArray, List.getElem_cons_succ, List.getElem_cons_zero]; go_simp; try (with_reducible rfl))
        simp only [List.getElem_toArray, List.getElem_cons_succ, List.getElem_cons_zero, Act.put, List.setIfInBounds_toArray, List.set_cons_zero, List.set_cons_succ]
        refine wpAnyH_take (i := 4) (v := ?v4) rfl (by kernel_rfl) (by kernel_rfl) (by kernel_rfl) (fun _ _ _ h => h) (Or.inl ⟨by rfl, ?y4⟩) hHeld ?r4
        case y4 => (intro W hSw; simp only [List.getElem_toArray, List.getElem_cons_succ, List.getElem_cons_zero]; go_simp; try (with_reducible rfl))
        simp only [List.getElem_toArray, List.getElem_cons_succ, List.getElem_cons_zero, Act.put, List.setIfInBounds_toArray, List.set_cons_zero, List.set_cons_succ]
        refine wpAnyH_take (i := 5) (v := ?v5) rfl (by kernel_rfl) (by kernel_rfl) (by kernel_rfl) (fun _ _ _ h => h) (Or.inl ⟨by rfl, ?y5⟩) hHeld ?r5
        case y5 => (intro W hSw; simp only [List.getElem_toArray, List.getElem_cons_succ, List.getElem_cons_zero]; go_simp; try (with_reducible rfl))
        simp only [List.getElem_toArray, List.getElem_cons_succ, List.getElem_cons_zero, Act.put, List.setIfInBounds_toArray, List.set_cons_zero, List.set_cons_succ]
        refine wpAnyH_ready (rs := [6, 10]) (by kernel_rfl) (by simp) (AllReadyH.cons rfl (fun K hK => ?_) (AllReadyH.cons rfl (fun K hK => ?_) AllReadyH.nil))
        · simp only [List.getElem_toArray, List.getElem_cons_succ, List.getElem_cons_zero]
          go_simp
          go_at_call 35; refine (CA.out _).mono ?_; rintro e w6 ⟨⟨x, y, rfl, hxy⟩, hb1⟩
          have HXY := Lib.hid hxy
          clear hxy
          try go_wp2_with fail
          refine hK.out _ _ (by exact HS.out _ (hHeld.2.2.2.2.2.trans (hb1.mono hHeld.2.2.2.2.2.size))) (fun hHeld1 => ?_)
          clear hK K hHeld hb1
          have hHeld := hHeld1; clear hHeld1
          try simp only [List.getElem_toArray, List.getElem_cons_succ, List.getElem_cons_zero, Act.put, List.setIfInBounds_toArray, List.set_cons_zero, List.set_cons_succ]
          refine wpAnyH_take (i := 7) (v := ?vt17) rfl (by kernel_rfl) (by kernel_rfl) (by kernel_rfl) (fun _ _ _ h => h) (Or.inl ⟨by rfl, ?yt17⟩) hHeld ?rt17
          case yt17 => (intro W hSw; simp only [List.getElem_toArray, List.getElem_cons_succ, List.getElem_cons_zero]; go_simp; try (with_reducible rfl))
          simp only [List.getElem_toArray, List.getElem_cons_succ, List.getElem_cons_zero, Act.put, List.setIfInBounds_toArray, List.set_cons_zero, List.set_cons_succ]
          refine wpAnyH_take (i := 8) (v := ?vt18) rfl (by kernel_rfl) (by kernel_rfl) (by kernel_rfl) (fun _ _ _ h => h) (Or.inl ⟨by rfl, ?yt18⟩) hHeld ?rt18
          case yt18 => (intro W hSw; simp only [List.getElem_toArray, List.getElem_cons_succ, List.getElem_cons_zero]; go_simp; try (with_reducible rfl))
          simp only [List.getElem_toArray, List.getElem_cons_succ, List.getElem_cons_zero, Act.put, List.setIfInBounds_toArray, List.set_cons_zero, List.set_cons_succ]
          refine wpAnyH_take (i := 9) (v := ?vt19) rfl (by kernel_rfl) (by kernel_rfl) (by kernel_rfl) (fun _ _ _ h => h) (Or.inl ⟨by rfl, ?yt19⟩) hHeld ?rt19
          case yt19 => (intro W hSw; simp only [List.getElem_toArray, List.getElem_cons_succ, List.getElem_cons_zero]; go_simp; try (with_reducible rfl))
          simp only [List.getElem_toArray, List.getElem_cons_succ, List.getElem_cons_zero, Act.put, List.setIfInBounds_toArray, List.set_cons_zero, List.set_cons_succ]
          refine wpAnyH_ready (rs := [10]) (by kernel_rfl) (by simp) (AllReadyH.cons rfl (fun K hK => ?_) AllReadyH.nil)
          simp only [List.getElem_toArray, List.getElem_cons_succ, List.getElem_cons_zero]
          go_simp
          have BP := Lib.hid hHeld.2.2.2.2.2
          have BA := hHeld.2.2.2.2.2.alloc hHeld.2.2.2.2.2.size (.cells #[.int .i64 0, .int .i64 0] 28)
          have CO := Lib.hid (Pt2.new w6 0 0 28)
          refine hK.out _ _ (by exact HS.out _ BA) (fun hHeld1 => ?_)
          clear hK K hHeld BA
          have hHeld := hHeld1; clear hHeld1
          try simp only [List.getElem_toArray, List.getElem_cons_succ, List.getElem_cons_zero, Act.put, List.setIfInBounds_toArray, List.set_cons_zero, List.set_cons_succ]
          obtain ⟨d0, d1, f0, f1⟩ := CO.out
          have BH := Lib.hid hHeld.2.2.2.2.2
          refine wpAnyH_ready (rs := [11]) (by kernel_rfl) (by simp) (AllReadyH.cons rfl (fun K hK => ?_) AllReadyH.nil)
          simp only [List.getElem_toArray, List.getElem_cons_succ, List.getElem_cons_zero]
          go_simp
          refine hK.out _ _ (by exact HS.out _ (BP.out.alloc BP.out.size _)) (fun hHeld1 => ?_)
          clear hK K hHeld d0 d1 f0 f1
          have hHeld := hHeld1; clear hHeld1
          try simp only [List.getElem_toArray, List.getElem_cons_succ, List.getElem_cons_zero, Act.put, List.setIfInBounds_toArray, List.set_cons_zero, List.set_cons_succ]
          refine wpAnyH_take (i := 12) (v := ?vt212) rfl (by kernel_rfl) (by kernel_rfl) (by kernel_rfl) (fun _ _ _ h => h) (Or.inl ⟨by rfl, ?yt212⟩) hHeld ?rt212
          case yt212 => (intro W hSw; simp only [List.getElem_toArray, List.getElem_cons_succ, List.getElem_cons_zero]; go_simp; try (with_reducible rfl))
          simp only [List.getElem_toArray, List.getElem_cons_succ, List.getElem_cons_zero, Act.put, List.setIfInBounds_toArray, List.set_cons_zero, List.set_cons_succ]
          refine wpAnyH_done (by kernel_rfl) ?_ _
          go_wp2_with fail
          go_meet
          case rel => exact ⟨_, x, y, rfl, rfl, HXY.out, BP.out.size, Pt2.new w6 _ _ _, BP.out.alloc BP.out.size _⟩
        · simp only [List.getElem_toArray, List.getElem_cons_succ, List.getElem_cons_zero]
          go_simp
          have BP := Lib.hid hHeld.2.2.2.2.2
          have BA := hHeld.2.2.2.2.2.alloc hHeld.2.2.2.2.2.size (.cells #[.int .i64 0, .int .i64 0] 28)
          have CO := Lib.hid (Pt2.new wr 0 0 28)
          refine hK.out _ _ (by exact HS.out _ BA) (fun hHeld1 => ?_)
          clear hK K hHeld BA
          have hHeld := hHeld1; clear hHeld1
          try simp only [List.getElem_toArray, List.getElem_cons_succ, List.getElem_cons_zero, Act.put, List.setIfInBounds_toArray, List.set_cons_zero, List.set_cons_succ]
          refine wpAnyH_ready (rs := [6]) (by kernel_rfl) (by simp) (AllReadyH.cons rfl (fun K hK => ?_) AllReadyH.nil)
          simp only [List.getElem_toArray, List.getElem_cons_succ, List.getElem_cons_zero]
          go_simp
          go_at_call 35; refine (CA.out _).mono ?_; rintro e w6 ⟨⟨x, y, rfl, hxy⟩, hb1⟩
          have HXY := Lib.hid hxy
          clear hxy
          try go_wp2_with fail
          refine hK.out _ _ (by exact HS.out _ (hHeld.2.2.2.2.2.trans (hb1.mono hHeld.2.2.2.2.2.size))) (fun hHeld1 => ?_)
          have CO := Lib.hid ((Pt2.drewd CO.out).later hb1)
          clear hK K hHeld hb1
          have hHeld := hHeld1; clear hHeld1
          try simp only [List.getElem_toArray, List.getElem_cons_succ, List.getElem_cons_zero, Act.put, List.setIfInBounds_toArray, List.set_cons_zero, List.set_cons_succ]
          refine wpAnyH_take (i := 7) (v := ?vt37) rfl (by kernel_rfl) (by kernel_rfl) (by kernel_rfl) (fun _ _ _ h => h) (Or.inl ⟨by rfl, ?yt37⟩) hHeld ?rt37
          case yt37 => (intro W hSw; simp only [List.getElem_toArray, List.getElem_cons_succ, List.getElem_cons_zero]; go_simp; try (with_reducible rfl))
          simp only [List.getElem_toArray, List.getElem_cons_succ, List.getElem_cons_zero, Act.put, List.setIfInBounds_toArray, List.set_cons_zero, List.set_cons_succ]
          refine wpAnyH_take (i := 8) (v := ?vt38) rfl (by kernel_rfl) (by kernel_rfl) (by kernel_rfl) (fun _ _ _ h => h) (Or.inl ⟨by rfl, ?yt38⟩) hHeld ?rt38
          case yt38 => (intro W hSw; simp only [List.getElem_toArray, List.getElem_cons_succ, List.getElem_cons_zero]; go_simp; try (with_reducible rfl))
          simp only [List.getElem_toArray, List.getElem_cons_succ, List.getElem_cons_zero, Act.put, List.setIfInBounds_toArray, List.set_cons_zero, List.set_cons_succ]
          refine wpAnyH_take (i := 9) (v := ?vt39) rfl (by kernel_rfl) (by kernel_rfl) (by kernel_rfl) (fun _ _ _ h => h) (Or.inl ⟨by rfl, ?yt39⟩) hHeld ?rt39
          case yt39 => (intro W hSw; simp only [List.getElem_toArray, List.getElem_cons_succ, List.getElem_cons_zero]; go_simp; try (with_reducible rfl))
          simp only [List.getElem_toArray, List.getElem_cons_succ, List.getElem_cons_zero, Act.put, List.setIfInBounds_toArray, List.set_cons_zero, List.set_cons_succ]
          obtain ⟨d0, d1, f0, f1⟩ := CO.out
          have BH := Lib.hid hHeld.2.2.2.2.2
          refine wpAnyH_ready (rs := [11]) (by kernel_rfl) (by simp) (AllReadyH.cons rfl (fun K hK => ?_) AllReadyH.nil)
          simp only [List.getElem_toArray, List.getElem_cons_succ, List.getElem_cons_zero]
          go_simp
          refine hK.out _ _ (by exact HS.out _ ((BH.out.setCell (Nat.le_refl _) _).setCell (Nat.le_refl _) _)) (fun hHeld1 => ?_)
          clear hK K hHeld d0 d1 f0 f1
          have hHeld := hHeld1; clear hHeld1
          try simp only [List.getElem_toArray, List.getElem_cons_succ, List.getElem_cons_zero, Act.put, List.setIfInBounds_toArray, List.set_cons_zero, List.set_cons_succ]
          refine wpAnyH_take (i := 12) (v := ?vt412) rfl (by kernel_rfl) (by kernel_rfl) (by kernel_rfl) (fun _ _ _ h => h) (Or.inl ⟨by rfl, ?yt412⟩) hHeld ?rt412
          case yt412 => (intro W hSw; simp only [List.getElem_toArray, List.getElem_cons_succ, List.getElem_cons_zero]; go_simp; try (with_reducible rfl))
          simp only [List.getElem_toArray, List.getElem_cons_succ, List.getElem_cons_zero, Act.put, List.setIfInBounds_toArray, List.set_cons_zero, List.set_cons_succ]
          refine wpAnyH_done (by kernel_rfl) ?_ _
          go_wp2_with fail
          go_meet
          case rel => exact ⟨_, x, y, rfl, rfl, HXY.out, Nat.le_refl _, CO.out.set _ _, (BH.out.setCell (Nat.le_refl _) _).setCell (Nat.le_refl _) _⟩
      case rest =>
        obtain ⟨g, x, y, rfl, rfl, hxy, hg, hP, hBx⟩ := hcut
        have HXY := Lib.hid hxy
        have HP2 := Lib.hid hP
        have HRX := Lib.hid (HR.out.later hBx)
        have KX := Lib.hid ((Kp.two hBx (Kp.two hBx (Kp.two hBx (Kp.two hBx (Kp.two hBx (Kp.two hBx (Kp.ends hBx))))))) K.out)
        have FX := Kp.soft hBx Z F
        have ZX : w.heap.size + 1 + 1 < wc.heap.size := Nat.lt_of_lt_of_le Z hBx.size
        have BX := Lib.hid (HBB.out.trans (hBx.mono HBB.out.size))
        clear hxy hP z F K HS
        have zx := KX.out
        cases hst : stepB v p
        · have HF := Lib.hid (fine_no (l := l) hkl (show stepB v l[j] = false by rw [← HP.out]; exact hst))
          clear hBx
          go_wp2_with fail
          refine bodyPost_ret (v := .tuple #[.agg #[.int .i64 0, .int .i64 0, .int .i64 0, .int .i64 0, .slice none 0 0], .int .i64 11]) (by simp [results, Try.results17, go_sem, *]) rfl ⟨?_, Or.inr ⟨HF.out, rfl⟩⟩
          have B := KX.out.2.2.2.2.2.2.2.2.2.2.2.2.2
          exact (((((B.setCell (by simp; try omega) _).setCell (by simp; try omega) _).setCell (by simp; try omega) _).setCell (by simp; try omega) _).setCell (by simp; try omega) _)
        · have EX := Lib.hid (HXY.out hst)
          obtain ⟨p0, p1, _, _⟩ := HP2.out
          have o4 := HRX.out.c4
          have HRY := Lib.hid (HRX.out.later (Kp.behind wc (.cells #[.int .i64 x, .int .i64 y] 28)))
          have o4y := HRY.out.c4
          have nw := Lib.hid (news_pt wc x y 28)
          have len : (moveL (l.take j) v).length = j := by rw [moveL_len, List.length_take]; omega
          have ZY : w1.heap.size + 1 ≤ (wc.alloc (.cells #[.int .i64 x, .int .i64 y] 28)).heap.size := HRY.out.lt
          have BY := Lib.hid (BX.out.alloc BX.out.size (.cells #[.int .i64 x, .int .i64 y] 28))
          have KY := Lib.hid ((Kp.two (Kp.behind wc (.cells #[.int .i64 x, .int .i64 y] 28)) (Kp.two (Kp.behind wc (.cells #[.int .i64 x, .int .i64 y] 28)) (Kp.two (Kp.behind wc (.cells #[.int .i64 x, .int .i64 y] 28)) (Kp.two (Kp.behind wc (.cells #[.int .i64 x, .int .i64 y] 28)) (Kp.two (Kp.behind wc (.cells #[.int .i64 x, .int .i64 y] 28)) (Kp.two (Kp.behind wc (.cells #[.int .i64 x, .int .i64 y] 28)) (Kp.ends (Kp.behind wc (.cells #[.int .i64 x, .int .i64 y] 28))))))))) KX.out)
          clear hBx FX
          go_wp2_with (first | (at_builtin; refine wpList_append_own_at _ rfl _ _ 24 rfl (w1.heap.size + 1) 28 i0 (.agg #[.int .i64 0, .int .i64 0]) 2 16 Try.underlying24 hi hz0 hz1 hz2 rfl (by decide) _ _ _ rfl HRY.out.row ⟨wc.heap.size, 0, none⟩ 1 1 [.int .i64 x, .int .i64 y] rfl rfl nw.out (one_pt x y) (by rw [len]; unfold maxLen; omega) (by rw [len]; omega) ZY ?_))
          intro t1 w4 hown hgrow _ hat
          obtain ⟨hro, q4, qf, ql⟩ := HRY.out.grown (p := (x, y)) (by rw [len]; exact hown) hgrow
          have BZ := Lib.hid (BY.out.grown hgrow BY.out.size (fun q hq => by have := (own_lt HRY.out.row hq).2; omega))
          obtain ⟨g4, cap4, e4, _⟩ := own_pts hro.row (by rw [List.length_append, len]; simp)
          rw [show (moveL (l.take j) v ++ [(x, y)]).length = j + 1 by rw [List.length_append, len]; rfl] at e4
          subst e4
          have HRO := Lib.hid hro
          clear hown hgrow hat hro zx p0 p1 o4 o4y HRY BY nw
          go_wp2_with fail
          go_roundw
          case rel =>
            refine ⟨j + 1, .slice (some ⟨g4, 0, none⟩) (j + 1) cap4, by omega, by go_num, fun t ht htj => ?_, ?_, BZ.out.setCell (Nat.le_refl _) _⟩
            · by_cases e : t = j
              · subst e; rw [← HP.out]; exact hst
              · exact HOK.out t ht (by omega)
            · rw [take_move hkl, ← HP.out, ← EX.out.1, ← EX.out.2]; exact HRO.out
          case measure => simp [intOf]; omega
    · have hlz : ¬ (j : Int) < (n : Int) := by omega
      have hjn : j = l.length := by have := HN.out; omega
      have HF := Lib.hid (fine_yes (l := l) (d := v) (by have := HN.out; omega) (fun i hi => HOK.out i hi (by omega)))
      have hR := HR.out
      rw [hjn, List.take_of_length_le (Nat.le_refl _)] at hR
      obtain ⟨g, cap, esv, hP⟩ := own_pts hR.row (by rw [moveL_len]; have := HN.out; omega)
      have hgb := (own_lt hR.row (g := g) (by rw [esv]; rfl)).2
      rw [moveL_len, ← HN.out] at esv
      subst esv
      have r0 := hR.c0
      have r1 := hR.c1
      have r2 := hR.c2
      have r3 := hR.c3
      have r4 := hR.c4
      have HP := Lib.hid hP
      have HG : g ≠ w.heap.size + 1 + 1 := by omega
      have HGw : w.heap.size ≤ g := by omega
      clear hR hP hgb HR hjn
      go_wp2_with fail
      refine bodyPost_ret (v := .tuple #[.agg #[.int .i64 0, .int .i64 0, .int .i64 0, .int .i64 0, .slice (some ⟨g, 0, none⟩) n cap], .int .i64 0]) (by simp [results, Try.results17, go_sem, *]) rfl ⟨?_, Or.inl ⟨HF.out, g, ⟨cap, rfl⟩, ?_, HGw⟩⟩
      · have B := K.out.2.2.2.2.2.2.2.2.2.2.2.2.2
        exact (((((B.setCell (by simp; try omega) _).setCell (by simp; try omega) _).setCell (by simp; try omega) _).setCell (by simp; try omega) _).setCell (by simp; try omega) _)
      · have Q := pts_far (o := 4) (x := .slice (some ⟨g, 0, none⟩) n cap) (pts_far (o := 3) (x := .int .i64 0) (pts_far (o := 2) (x := .int .i64 0) (pts_far (o := 1) (x := .int .i64 0) (pts_far (o := 0) (x := .int .i64 0) HP.out HG) HG) HG) HG) HG
        simpa using Q
theorem refMove_any (a b c d : Int) (l : List Pnt) (A : Option Addr) (k : Nat) (v : Pnt) (w : World) (hA : PtsAt w w.heap.size A l) (hn : l.length ≤ 70) (hg : rgB a b c d l = true) :
    Calls Try.prog 17 #[.agg #[.int .i64 a, .int .i64 b, .int .i64 c, .int .i64 d, .slice A l.length k], .agg #[.int .i64 v.1, .int .i64 v.2]] w (MvEnd w a b c d l v (.int .i64 0) (.int .i64 11)) := by
  rcases Nat.eq_zero_or_pos l.length with h | h
  · have hl : l = [] := List.length_eq_zero_iff.1 h
    rw [rgB_no h] at hg
    cases hm : (stepB v (a, b) && stepB v (c, d))
    · rw [h]
      refine (show Calls Try.prog 17 #[.agg #[.int .i64 a, .int .i64 b, .int .i64 c, .int .i64 d, .slice A 0 k], .agg #[.int .i64 v.1, .int .i64 v.2]] w fun e w' => e = .returned (.tuple #[.agg #[.int .i64 0, .int .i64 0, .int .i64 0, .int .i64 0, .slice none 0 0], .int .i64 11]) ∧ Below w.heap.size w w' from by
        cases h1 : stepB v (a, b)
        · exact refRect_no1 a b c d A k v w hg h1
        · rw [h1, Bool.true_and] at hm
          exact refRect_no2 a b c d A k v w hg h1 hm).mono ?_
      rintro e w' ⟨rfl, hb⟩
      exact ⟨hb, Or.inr ⟨by rw [mvB_rect h, hm], rfl⟩⟩
    · rw [h]
      have hm2 := hm
      rw [Bool.and_eq_true] at hm2
      refine (refRect_yes a b c d A k v w hg hm2.1 hm2.2).mono ?_
      rintro e w' ⟨rfl, hb⟩
      refine ⟨hb, Or.inl ⟨by rw [mvB_rect h, hm], none, 0, ?_, ?_, fun g o s e => by cases e⟩⟩
      · rw [mvN_rect h, mvN_rect h, mvN_rect h, mvN_rect h, moveL_len, h]
      · subst hl
        exact fun h => absurd rfl h
  · refine (refMove_poly a b c d l A k v w hA h hn hg).mono ?_
    rintro e w' ⟨hb, ⟨hf, g, q, rfl, hP, hg⟩ | ⟨hf, rfl⟩⟩
    · refine ⟨hb, Or.inl ⟨by rw [mvB_poly h, hf], some ⟨g, 0, none⟩, q, ?_, hP, fun g' o s e => by cases e; exact hg⟩⟩
      rw [mvN_poly h, mvN_poly h, mvN_poly h, mvN_poly h, moveL_len]
    · exact ⟨hb, Or.inr ⟨by rw [mvB_poly h, hf], rfl⟩⟩
end Go.Proofs.Ytiggjaodfmelpaa.Rg
