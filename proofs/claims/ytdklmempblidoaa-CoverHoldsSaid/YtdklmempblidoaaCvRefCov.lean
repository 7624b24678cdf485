/-
  Contract of the document's answer Cover: the box of a cover, for a rectangle that may be. Memory that was there is left as it was.
-/
import Derived.Test.YtdklmempblidoaaCvBox
import Derived.Test.YtdklmempblidoaaCvCodes
import Derived.Test.YtdklmempblidoaaMoRef
import Derived.Test.YtdklmempblidoaaRcJoin
import Derived.Test.YtdklmempblidoaaPts
import Derived.Deep.RegionHeld3
import Derived.IntWalk
namespace Go.Proofs.Ytdklmempblidoaa.Cv
open Go.RowKit Go.Proofs.Ytdklmempblidoaa.Pt Go.Proofs.Ytdklmempblidoaa.Rc Go.Proofs.Ytdklmempblidoaa.Mo Go.Proofs.Ytdklmempblidoaa.Pts
set_option linter.unusedVariables false

theorem rc_later {W w1 : World} {g : Nat} (h : ∃ a b c d, Rc4 W g a b c d) (hb : Below W.heap.size W w1) : ∃ a b c d, Rc4 w1 g a b c d := by
  obtain ⟨a, b, c, d, h⟩ := h
  exact ⟨a, b, c, d, h.later hb⟩

set_option maxHeartbeats 4000000 in
set_option maxRecDepth 100000 in
theorem refCover_any (k : Nat) (x1 y1 x2 y2 : Int) (w : World) (h1 : 24 ≤ k) (h2 : k ≤ 31) (h : rmayB x1 y1 x2 y2 = true) : Calls Try.prog 12 #[.int .i64 k, .agg #[.int .i64 x1, .int .i64 y1, .int .i64 x2, .int .i64 y2]] w fun e w' =>
    e = .returned (.agg #[.int .i64 (firI k (colI k x1)), .int .i64 (firI k (colI k y1)), .int .i64 (lasI k (colI k x2)), .int .i64 (lasI k (colI k y2))]) ∧ Below w.heap.size w w' := by
  obtain ⟨m1, m2⟩ := rmay_two h
  obtain ⟨j1, j2, j3, j4⟩ := box_join (k := k) h
  have HM := rmayB_iff.1 (box_may (k := k) h)
  obtain ⟨ba, bb, bc, bd, be, bf⟩ := rmayB_bd h
  have lx1 : inR (lasI k (colI k x1)) = true := inR_iff.2 ⟨by have := las_self (k := k) (n := x1) (by omega); omega, las_le _ _⟩
  have ly1 : inR (lasI k (colI k y1)) = true := inR_iff.2 ⟨by have := las_self (k := k) (n := y1) (by omega); omega, las_le _ _⟩
  have lx2 : inR (lasI k (colI k x2)) = true := inR_iff.2 ⟨by have := las_self (k := k) (n := x2) (by omega); omega, las_le _ _⟩
  have ly2 : inR (lasI k (colI k y2)) = true := inR_iff.2 ⟨by have := las_self (k := k) (n := y2) (by omega); omega, las_le _ _⟩
  have K1 := Lib.hid (fun W => refCell_any k x1 W h1 h2 (mayB_bd m1).1)
  have K2 := Lib.hid (fun W => refCell_any k y1 W h1 h2 (mayB_bd m1).2)
  have K3 := Lib.hid (fun W => refCell_any k x2 W h1 h2 (mayB_bd m2).1)
  have K4 := Lib.hid (fun W => refCell_any k y2 W h1 h2 (mayB_bd m2).2)
  have B1 := Lib.hid (fun W => refBox_any k (colI k x1) (colI k y1) W h1 h2 (col_bel h2 m1).1 (col_bel h2 m1).2)
  have B2 := Lib.hid (fun W => refBox_any k (colI k x2) (colI k y2) W h1 h2 (col_bel h2 m2).1 (col_bel h2 m2).2)
  have J := Lib.hid (fun W => refJoin_any (firI k (colI k x1)) (firI k (colI k y1)) (lasI k (colI k x1)) (lasI k (colI k y1)) (firI k (colI k x2)) (firI k (colI k y2)) (lasI k (colI k x2)) (lasI k (colI k y2)) W lx1 ly1 lx2 ly2)
  rw [j1, j2, j3, j4] at J
  obtain ⟨c1, e1⟩ : ∃ c, c = colI k x1 := ⟨_, rfl⟩
  obtain ⟨r1, e2⟩ : ∃ c, c = colI k y1 := ⟨_, rfl⟩
  obtain ⟨c2, e3⟩ : ∃ c, c = colI k x2 := ⟨_, rfl⟩
  obtain ⟨r2, e4⟩ : ∃ c, c = colI k y2 := ⟨_, rfl⟩
  rw [← e1] at K1; rw [← e2] at K2; rw [← e3] at K3; rw [← e4] at K4
  rw [← e1, ← e2] at B1
  rw [← e3, ← e4] at B2
  rw [← e1, ← e2, ← e3, ← e4] at J ⊢
  obtain ⟨f1, g1⟩ : ∃ c, c = firI k c1 := ⟨_, rfl⟩
  obtain ⟨f2, g2⟩ : ∃ c, c = firI k r1 := ⟨_, rfl⟩
  obtain ⟨f3, g3⟩ : ∃ c, c = lasI k c1 := ⟨_, rfl⟩
  obtain ⟨f4, g4⟩ : ∃ c, c = lasI k r1 := ⟨_, rfl⟩
  obtain ⟨l1, i1⟩ : ∃ c, c = firI k c2 := ⟨_, rfl⟩
  obtain ⟨l2, i2⟩ : ∃ c, c = firI k r2 := ⟨_, rfl⟩
  obtain ⟨l3, i3⟩ : ∃ c, c = lasI k c2 := ⟨_, rfl⟩
  obtain ⟨l4, i4⟩ : ∃ c, c = lasI k r2 := ⟨_, rfl⟩
  rw [← g1, ← g2, ← g3, ← g4, ← i1, ← i2, ← i3, ← i4] at J
  rw [← g1, ← g2, ← g3, ← g4] at B1
  rw [← i1, ← i2, ← i3, ← i4] at B2
  rw [← g1, ← g2, ← i3, ← i4]
  clear e1 e2 e3 e4 g1 g2 g3 g4 i1 i2 i3 i4 m1 m2 h HM lx1 ly1 lx2 ly2 j1 j2 j3 j4 ba bb bc bd be bf
  have hFour := Four.new w x1 y1 x2 y2 23
  have hR0 := Rc4.new (w.alloc (.cells #[.int .i64 x1, .int .i64 y1, .int .i64 x2, .int .i64 y2] 23)) 0 0 0 0 23
  rw [World.size_alloc] at hR0
  have B0 := Lib.hid (((Below.refl (w.alloc (.cells #[.int .i64 x1, .int .i64 y1, .int .i64 x2, .int .i64 y2] 23)).heap.size (w.alloc (.cells #[.int .i64 x1, .int .i64 y1, .int .i64 x2, .int .i64 y2] 23))).alloc (Nat.le_refl _) (.cells #[.int .i64 0, .int .i64 0, .int .i64 0, .int .i64 0] 23)).drew)
  have R0 := Lib.hid (Rc4.drew hR0)
  obtain ⟨v, hv⟩ : ∃ v, v = w.alloc (.cells #[.int .i64 x1, .int .i64 y1, .int .i64 x2, .int .i64 y2] 23) := ⟨_, rfl⟩
  have BV := Lib.hid (show Below w.heap.size w v ∧ w.heap.size ≤ v.heap.size ∧ v.heap.size ≤ w.heap.size + 1 by rw [hv]; exact ⟨(Below.refl _ _).alloc (Nat.le_refl _) _, by simp, by simp⟩)
  rw [← hv] at hFour
  have hvs : (w.alloc (.cells #[.int .i64 x1, .int .i64 y1, .int .i64 x2, .int .i64 y2] 23)) = v := hv.symm
  have HV := Lib.hid hvs
  rw [hvs] at B0 R0
  have HS : Hid (∀ W, (∃ a b c d, Rc4 W (w.heap.size + 1) a b c d) → Below v.heap.size v W → W.cell? ⟨w.heap.size, 0, none⟩ = some (.int .i64 x1) ∧ W.cell? ⟨w.heap.size, 1, none⟩ = some (.int .i64 y1) ∧ W.cell? ⟨w.heap.size, 2, none⟩ = some (.int .i64 x2) ∧ W.cell? ⟨w.heap.size, 3, none⟩ = some (.int .i64 y2) ∧ (∃ a b c d, Rc4 W (w.heap.size + 1) a b c d) ∧ Below v.heap.size v W) := Lib.hid fun W hR hB => by
    obtain ⟨_, a1, a2, a3, a4⟩ := hFour.later hB
    exact ⟨a1, a2, a3, a4, hR, hB⟩
  clear hFour hR0 hv hvs
  go_enter Try.func12, Try.ntmps12
  go_wp2_with fail
  rw [HV.out]
  refine wp_region_held_drew (S := (fun W => W.cell? ⟨w.heap.size, 0, none⟩ = some (.int .i64 x1) ∧ W.cell? ⟨w.heap.size, 1, none⟩ = some (.int .i64 y1) ∧ W.cell? ⟨w.heap.size, 2, none⟩ = some (.int .i64 x2) ∧ W.cell? ⟨w.heap.size, 3, none⟩ = some (.int .i64 y2) ∧ (∃ a b c d, Rc4 W (w.heap.size + 1) a b c d) ∧ Below v.heap.size v W)) (by kernel_rfl) (HS.out _ ⟨0, 0, 0, 0, R0.out⟩ B0.out) (fun hHeld => ?_)
  refine wpAnyH_take (i := 0) (v := ?v0) rfl (by kernel_rfl) (by kernel_rfl) (by kernel_rfl) (fun _ _ _ h => h) (Or.inl ⟨by rfl, ?y0⟩) hHeld ?r0
  case y0 => (intro W hSw; simp only [List.getElem_toArray, List.getElem_cons_zero]; go_simp; try (with_reducible rfl))
  simp only [List.getElem_toArray, List.getElem_cons_zero, Act.put, List.setIfInBounds_toArray, List.set_cons_zero, List.set_cons_succ]
  refine wpAnyH_take (i := 1) (v := ?v1) rfl (by kernel_rfl) (by kernel_rfl) (by kernel_rfl) (fun _ _ _ h => h) (Or.inl ⟨by rfl, ?y1⟩) hHeld ?r1
  case y1 => (intro W hSw; simp only [List.getElem_toArray, List.getElem_cons_succ, List.getElem_cons_zero]; go_simp; try (with_reducible rfl))
  simp only [List.getElem_toArray, List.getElem_cons_succ, List.getElem_cons_zero, Act.put, List.setIfInBounds_toArray, List.set_cons_zero, List.set_cons_succ]
  refine wpAnyH_take (i := 2) (v := ?v2) rfl (by kernel_rfl) (by kernel_rfl) (by kernel_rfl) (fun _ _ _ h => h) (Or.inl ⟨by rfl, ?y2⟩) hHeld ?r2
  case y2 => (intro W hSw; simp only [List.getElem_toArray, List.getElem_cons_succ, List.getElem_cons_zero]; go_simp; try (with_reducible rfl))
  simp only [List.getElem_toArray, List.getElem_cons_succ, List.getElem_cons_zero, Act.put, List.setIfInBounds_toArray, List.set_cons_zero, List.set_cons_succ]
  refine wpAnyH_take (i := 3) (v := ?v3) rfl (by kernel_rfl) (by kernel_rfl) (by kernel_rfl) (fun _ _ _ h => h) (Or.inl ⟨by rfl, ?y3⟩) hHeld ?r3
  case y3 => (intro W hSw; simp only [List.getElem_toArray, List.getElem_cons_succ, List.getElem_cons_zero]; go_simp; try (with_reducible rfl))
  simp only [List.getElem_toArray, List.getElem_cons_succ, List.getElem_cons_zero, Act.put, List.setIfInBounds_toArray, List.set_cons_zero, List.set_cons_succ]
  refine wpAnyH_take (i := 5) (v := ?v5) rfl (by kernel_rfl) (by kernel_rfl) (by kernel_rfl) (fun _ _ _ h => h) (Or.inl ⟨by rfl, ?y5⟩) hHeld ?r5
  case y5 => (intro W hSw; simp only [List.getElem_toArray, List.getElem_cons_succ, List.getElem_cons_zero]; go_simp; try (with_reducible rfl))
  simp only [List.getElem_toArray, List.getElem_cons_succ, List.getElem_cons_zero, Act.put, List.setIfInBounds_toArray, List.set_cons_zero, List.set_cons_succ]
  refine wpAnyH_take (i := 6) (v := ?v6) rfl (by kernel_rfl) (by kernel_rfl) (by kernel_rfl) (fun _ _ _ h => h) (Or.inl ⟨by rfl, ?y6⟩) hHeld ?r6
  case y6 => (intro W hSw; simp only [List.getElem_toArray, List.getElem_cons_succ, List.getElem_cons_zero]; go_simp; try (with_reducible rfl))
  simp only [List.getElem_toArray, List.getElem_cons_succ, List.getElem_cons_zero, Act.put, List.setIfInBounds_toArray, List.set_cons_zero, List.set_cons_succ]
  refine wpAnyH_take (i := 7) (v := ?v7) rfl (by kernel_rfl) (by kernel_rfl) (by kernel_rfl) (fun _ _ _ h => h) (Or.inl ⟨by rfl, ?y7⟩) hHeld ?r7
  case y7 => (intro W hSw; simp only [List.getElem_toArray, List.getElem_cons_succ, List.getElem_cons_zero]; go_simp; try (with_reducible rfl))
  simp only [List.getElem_toArray, List.getElem_cons_succ, List.getElem_cons_zero, Act.put, List.setIfInBounds_toArray, List.set_cons_zero, List.set_cons_succ]
  refine wpAnyH_take (i := 10) (v := ?v10) rfl (by kernel_rfl) (by kernel_rfl) (by kernel_rfl) (fun _ _ _ h => h) (Or.inl ⟨by rfl, ?y10⟩) hHeld ?r10
  case y10 => (intro W hSw; simp only [List.getElem_toArray, List.getElem_cons_succ, List.getElem_cons_zero]; go_simp; try (with_reducible rfl))
  simp only [List.getElem_toArray, List.getElem_cons_succ, List.getElem_cons_zero, Act.put, List.setIfInBounds_toArray, List.set_cons_zero, List.set_cons_succ]
  refine wpAnyH_take (i := 11) (v := ?v11) rfl (by kernel_rfl) (by kernel_rfl) (by kernel_rfl) (fun _ _ _ h => h) (Or.inl ⟨by rfl, ?y11⟩) hHeld ?r11
  case y11 => (intro W hSw; simp only [List.getElem_toArray, List.getElem_cons_succ, List.getElem_cons_zero]; go_simp; try (with_reducible rfl))
  simp only [List.getElem_toArray, List.getElem_cons_succ, List.getElem_cons_zero, Act.put, List.setIfInBounds_toArray, List.set_cons_zero, List.set_cons_succ]
  refine wpAnyH_take (i := 12) (v := ?v12) rfl (by kernel_rfl) (by kernel_rfl) (by kernel_rfl) (fun _ _ _ h => h) (Or.inl ⟨by rfl, ?y12⟩) hHeld ?r12
  case y12 => (intro W hSw; simp only [List.getElem_toArray, List.getElem_cons_succ, List.getElem_cons_zero]; go_simp; try (with_reducible rfl))
  simp only [List.getElem_toArray, List.getElem_cons_succ, List.getElem_cons_zero, Act.put, List.setIfInBounds_toArray, List.set_cons_zero, List.set_cons_succ]
  refine wpAnyH_take (i := 13) (v := ?v13) rfl (by kernel_rfl) (by kernel_rfl) (by kernel_rfl) (fun _ _ _ h => h) (Or.inl ⟨by rfl, ?y13⟩) hHeld ?r13
  case y13 => (intro W hSw; simp only [List.getElem_toArray, List.getElem_cons_succ, List.getElem_cons_zero]; go_simp; try (with_reducible rfl))
  simp only [List.getElem_toArray, List.getElem_cons_succ, List.getElem_cons_zero, Act.put, List.setIfInBounds_toArray, List.set_cons_zero, List.set_cons_succ]
  refine wpAnyH_take (i := 15) (v := ?v15) rfl (by kernel_rfl) (by kernel_rfl) (by kernel_rfl) (fun _ _ _ h => h) (Or.inl ⟨by rfl, ?y15⟩) hHeld ?r15
  case y15 => (intro W hSw; simp only [List.getElem_toArray, List.getElem_cons_succ, List.getElem_cons_zero]; go_simp; try (with_reducible rfl))
  simp only [List.getElem_toArray, List.getElem_cons_succ, List.getElem_cons_zero, Act.put, List.setIfInBounds_toArray, List.set_cons_zero, List.set_cons_succ]
  refine wpAnyH_take (i := 16) (v := ?v16) rfl (by kernel_rfl) (by kernel_rfl) (by kernel_rfl) (fun _ _ _ h => h) (Or.inl ⟨by rfl, ?y16⟩) hHeld ?r16
  case y16 => (intro W hSw; simp only [List.getElem_toArray, List.getElem_cons_succ, List.getElem_cons_zero]; go_simp; try (with_reducible rfl))
  simp only [List.getElem_toArray, List.getElem_cons_succ, List.getElem_cons_zero, Act.put, List.setIfInBounds_toArray, List.set_cons_zero, List.set_cons_succ]
  refine wpAnyH_take (i := 17) (v := ?v17) rfl (by kernel_rfl) (by kernel_rfl) (by kernel_rfl) (fun _ _ _ h => h) (Or.inl ⟨by rfl, ?y17⟩) hHeld ?r17
  case y17 => (intro W hSw; simp only [List.getElem_toArray, List.getElem_cons_succ, List.getElem_cons_zero]; go_simp; try (with_reducible rfl))
  simp only [List.getElem_toArray, List.getElem_cons_succ, List.getElem_cons_zero, Act.put, List.setIfInBounds_toArray, List.set_cons_zero, List.set_cons_succ]
  refine wpAnyH_ready (rs := [4]) (by kernel_rfl) (by simp) (AllReadyH.cons rfl (fun K hK => ?_) AllReadyH.nil)
  simp only [List.getElem_toArray, List.getElem_cons_succ, List.getElem_cons_zero]
  go_simp
  go_at_call 23; refine (K1.out _).mono ?_; rintro e w1 ⟨rfl, rfl⟩
  try go_wp2_with fail
  refine hK.out _ _ (by first | exact hHeld | exact HS.out _ (rc_later hHeld.2.2.2.2.1 hb1) (hHeld.2.2.2.2.2.trans (hb1.mono hHeld.2.2.2.2.2.size))) (fun hHeld1 => ?_)
  clear hK K hHeld
  have hHeld := hHeld1; clear hHeld1
  try simp only [List.getElem_toArray, List.getElem_cons_succ, List.getElem_cons_zero, Act.put, List.setIfInBounds_toArray, List.set_cons_zero, List.set_cons_succ]
  refine wpAnyH_ready (rs := [8]) (by kernel_rfl) (by simp) (AllReadyH.cons rfl (fun K hK => ?_) AllReadyH.nil)
  simp only [List.getElem_toArray, List.getElem_cons_succ, List.getElem_cons_zero]
  go_simp
  go_at_call 23; refine (K2.out _).mono ?_; rintro e w1 ⟨rfl, rfl⟩
  try go_wp2_with fail
  refine hK.out _ _ (by first | exact hHeld | exact HS.out _ (rc_later hHeld.2.2.2.2.1 hb1) (hHeld.2.2.2.2.2.trans (hb1.mono hHeld.2.2.2.2.2.size))) (fun hHeld1 => ?_)
  clear hK K hHeld
  have hHeld := hHeld1; clear hHeld1
  try simp only [List.getElem_toArray, List.getElem_cons_succ, List.getElem_cons_zero, Act.put, List.setIfInBounds_toArray, List.set_cons_zero, List.set_cons_succ]
  refine wpAnyH_ready (rs := [9]) (by kernel_rfl) (by simp) (AllReadyH.cons rfl (fun K hK => ?_) AllReadyH.nil)
  simp only [List.getElem_toArray, List.getElem_cons_succ, List.getElem_cons_zero]
  go_simp
  go_at_call 27; refine (B1.out _).mono ?_; rintro e w1 ⟨rfl, hb1⟩
  try go_wp2_with fail
  refine hK.out _ _ (by first | exact hHeld | exact HS.out _ (rc_later hHeld.2.2.2.2.1 hb1) (hHeld.2.2.2.2.2.trans (hb1.mono hHeld.2.2.2.2.2.size))) (fun hHeld1 => ?_)
  clear hK K hHeld
  have hHeld := hHeld1; clear hHeld1
  try simp only [List.getElem_toArray, List.getElem_cons_succ, List.getElem_cons_zero, Act.put, List.setIfInBounds_toArray, List.set_cons_zero, List.set_cons_succ]
  refine wpAnyH_ready (rs := [14]) (by kernel_rfl) (by simp) (AllReadyH.cons rfl (fun K hK => ?_) AllReadyH.nil)
  simp only [List.getElem_toArray, List.getElem_cons_succ, List.getElem_cons_zero]
  go_simp
  go_at_call 23; refine (K3.out _).mono ?_; rintro e w1 ⟨rfl, rfl⟩
  try go_wp2_with fail
  refine hK.out _ _ (by first | exact hHeld | exact HS.out _ (rc_later hHeld.2.2.2.2.1 hb1) (hHeld.2.2.2.2.2.trans (hb1.mono hHeld.2.2.2.2.2.size))) (fun hHeld1 => ?_)
  clear hK K hHeld
  have hHeld := hHeld1; clear hHeld1
  try simp only [List.getElem_toArray, List.getElem_cons_succ, List.getElem_cons_zero, Act.put, List.setIfInBounds_toArray, List.set_cons_zero, List.set_cons_succ]
  refine wpAnyH_ready (rs := [18]) (by kernel_rfl) (by simp) (AllReadyH.cons rfl (fun K hK => ?_) AllReadyH.nil)
  simp only [List.getElem_toArray, List.getElem_cons_succ, List.getElem_cons_zero]
  go_simp
  go_at_call 23; refine (K4.out _).mono ?_; rintro e w1 ⟨rfl, rfl⟩
  try go_wp2_with fail
  refine hK.out _ _ (by first | exact hHeld | exact HS.out _ (rc_later hHeld.2.2.2.2.1 hb1) (hHeld.2.2.2.2.2.trans (hb1.mono hHeld.2.2.2.2.2.size))) (fun hHeld1 => ?_)
  clear hK K hHeld
  have hHeld := hHeld1; clear hHeld1
  try simp only [List.getElem_toArray, List.getElem_cons_succ, List.getElem_cons_zero, Act.put, List.setIfInBounds_toArray, List.set_cons_zero, List.set_cons_succ]
  refine wpAnyH_ready (rs := [19]) (by kernel_rfl) (by simp) (AllReadyH.cons rfl (fun K hK => ?_) AllReadyH.nil)
  simp only [List.getElem_toArray, List.getElem_cons_succ, List.getElem_cons_zero]
  go_simp
  go_at_call 27; refine (B2.out _).mono ?_; rintro e w1 ⟨rfl, hb1⟩
  try go_wp2_with fail
  refine hK.out _ _ (by first | exact hHeld | exact HS.out _ (rc_later hHeld.2.2.2.2.1 hb1) (hHeld.2.2.2.2.2.trans (hb1.mono hHeld.2.2.2.2.2.size))) (fun hHeld1 => ?_)
  clear hK K hHeld
  have hHeld := hHeld1; clear hHeld1
  try simp only [List.getElem_toArray, List.getElem_cons_succ, List.getElem_cons_zero, Act.put, List.setIfInBounds_toArray, List.set_cons_zero, List.set_cons_succ]
  refine wpAnyH_ready (rs := [20]) (by kernel_rfl) (by simp) (AllReadyH.cons rfl (fun K hK => ?_) AllReadyH.nil)
  simp only [List.getElem_toArray, List.getElem_cons_succ, List.getElem_cons_zero]
  go_simp
  go_at_call 26; refine (J.out _).mono ?_; rintro e w1 ⟨rfl, hb1⟩
  try go_wp2_with fail
  refine hK.out _ _ (by first | exact hHeld | exact HS.out _ (rc_later hHeld.2.2.2.2.1 hb1) (hHeld.2.2.2.2.2.trans (hb1.mono hHeld.2.2.2.2.2.size))) (fun hHeld1 => ?_)
  clear hK K hHeld
  have hHeld := hHeld1; clear hHeld1
  try simp only [List.getElem_toArray, List.getElem_cons_succ, List.getElem_cons_zero, Act.put, List.setIfInBounds_toArray, List.set_cons_zero, List.set_cons_succ]
  obtain ⟨q1, q2, q3, q4, hRc, hBw⟩ := hHeld
  obtain ⟨z1, z2, z3, z4, hRc⟩ := hRc
  refine wpAnyH_ready (rs := [21]) (by kernel_rfl) (by simp) (AllReadyH.cons rfl (fun K hK => ?_) AllReadyH.nil)
  simp only [List.getElem_toArray, List.getElem_cons_succ, List.getElem_cons_zero]
  have hR1 := hRc
  obtain ⟨a0, a1, a2, a3, a4, a5, a6, a7⟩ := hR1
  go_simp
  clear a0 a1 a2 a3 a4 a5 a6 a7
  have RN := Lib.hid (hRc.set f1 f2 l3 l4)
  have hg : v.heap.size ≤ w.heap.size + 1 := BV.out.2.2
  have BN := Lib.hid ((((hBw.setCell (p := ⟨w.heap.size + 1, 0, none⟩) hg (.int .i64 f1)).setCell (p := ⟨w.heap.size + 1, 1, none⟩) hg (.int .i64 f2)).setCell (p := ⟨w.heap.size + 1, 2, none⟩) hg (.int .i64 l3)).setCell (p := ⟨w.heap.size + 1, 3, none⟩) hg (.int .i64 l4))
  refine hK.out _ _ (HS.out _ ⟨_, _, _, _, RN.out⟩ BN.out) (fun _ => ?_)
  clear hK K hRc hBw q1 q2 q3 q4
  refine wpAnyH_done (by kernel_rfl) ?_ _
  obtain ⟨a0, a1, a2, a3, a4, a5, a6, a7⟩ := RN.out
  go_wp2_with fail
  refine bodyPost_ret (v := .agg #[.int .i64 f1, .int .i64 f2, .int .i64 l3, .int .i64 l4]) (by simp [results, Try.results12, go_sem, *]) rfl ⟨rfl, BV.out.1.trans (BN.out.mono BV.out.2.1)⟩
end Go.Proofs.Ytdklmempblidoaa.Cv
