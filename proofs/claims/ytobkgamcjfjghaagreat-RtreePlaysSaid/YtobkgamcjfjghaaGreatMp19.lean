/-
  Contract of Nodes: all inner parts, each before what lies below it, in rows of the call's own. Memory that was there is left as it was.
-/
import Derived.Test.YtobkgamcjfjghaaGreatMp18
import Derived.Deep.AppendLies
/-
  Contract of the law's same: are two rows of numbers the same?
-/
namespace Go.Proofs.YtobkgamcjfjghaaGreat.Rt
open Go.RowKit Go.Joins Go.Proofs.YtobkgamcjfjghaaGreat.Pt Go.Proofs.YtobkgamcjfjghaaGreat.Rc Go.Proofs.YtobkgamcjfjghaaGreat.Rs
set_option linter.unusedVariables false
set_option linter.unusedSimpArgs false
set_option maxHeartbeats 2000000
set_option maxRecDepth 100000
/-- A slice that holds numbers. -/
def RowI (w : World) (s : Value) (l : List Int) : Prop := ∃ base, w.ownsRow base 3 1 s l.length (l.map (Value.int .i64))
theorem RowI.later {w w' : World} {s : Value} {l : List Int} (h : RowI w s l) (hb : Below w.heap.size w w') : RowI w' s l := by
  obtain ⟨base, h1, h2⟩ := h
  refine ⟨base, h1, ?_⟩
  rcases h2 with ⟨e, e2⟩ | ⟨g, c, cur, rfl, k1, k2, k3⟩
  · exact Or.inl ⟨e, e2⟩
  · exact Or.inr ⟨g, c, cur, rfl, k1, (hb.block g (Array.getElem?_eq_some_iff.1 k2).1).trans k2, k3⟩
theorem RowI.form {w : World} {s : Value} {l : List Int} (h : RowI w s l) : ∃ A c, s = .slice A l.length c ∧ (0 < l.length → ∃ g, A = some ⟨g, 0, none⟩) ∧ ∀ g, A = some ⟨g, 0, none⟩ → ∀ W, Below w.heap.size w W → ∀ (j : Nat) (hj : j < l.length), W.cell? ⟨g, j, none⟩ = some (.int .i64 l[j]) := by
  have hh := h
  obtain ⟨base, h1, h2⟩ := h
  rcases h2 with ⟨e, e2⟩ | ⟨g, c, cur, rfl, k1, k2, k3⟩
  · exact ⟨none, 0, by rw [e, e2], fun h => by omega, fun g hg => by cases hg⟩
  · refine ⟨some ⟨g, 0, none⟩, c, rfl, fun _ => ⟨g, rfl⟩, fun g' hg W hb j hj => ?_⟩
    cases hg
    obtain ⟨base2, h3⟩ := hh.later hb
    rw [h3.cellAt j (by omega), List.getElem?_map, List.getElem?_eq_getElem hj]
    rfl
def SmR (l m : List Int) (w : World) (v5 : Value) (wr : World) : Prop := ∃ j : Nat, v5 = .int .i64 (j : Int) ∧ j ≤ l.length ∧ l.take j = m.take j ∧ Below w.heap.size w wr
theorem same_any (s1 s2 : Value) (l m : List Int) (w : World) (h1 : RowI w s1 l) (h2 : RowI w s2 m) (hl : l.length ≤ 1000000) (hm : m.length ≤ 1000000) :
    Calls Tryz.prog 18 #[s1, s2] w fun e w' => e = .returned (.bool (decide (l = m))) ∧ Below w.heap.size w w' := by
  obtain ⟨A1, d1, rfl, g1, r1⟩ := h1.form
  obtain ⟨A2, d2, rfl, g2, r2⟩ := h2.form
  have G1 := Lib.hid g1
  have G2 := Lib.hid g2
  have R1 := Lib.hid r1
  have R2 := Lib.hid r2
  obtain ⟨n, hn⟩ : ∃ k, k = l.length := ⟨_, rfl⟩
  obtain ⟨k, hk⟩ : ∃ k, k = m.length := ⟨_, rfl⟩
  have NN := Lib.hid hn
  have KK := Lib.hid hk
  rw [← hn, ← hk]
  by_cases hnk : n = k
  · have hz : (n : Int) = (k : Int) := by omega
    subst hnk
    have hn1 : n ≤ 1000000 := by omega
    have R0 := Lib.hid (show SmR l m w (.int .i64 0) w from ⟨0, rfl, Nat.zero_le _, rfl, Below.refl _ _⟩)
    clear h1 h2 g1 g2 r1 r2 hn hk hz
    go_enter Tryz.func18, Tryz.ntmps18
    go_wp2_with fail
    go_loopw [5] (fun v5 wr => SmR l m w v5 wr) (fun v5 _ => n - (intOf v5).toNat)
    case atStart => exact R0.out
    case round =>
      clear R0
      obtain ⟨j, rfl, hj, ht, hb⟩ := hrel
      have HT := Lib.hid ht
      have HB := Lib.hid hb
      rw [← NN.out] at hj
      clear ht hb
      by_cases hlt : j < n
      · have hlz : (j : Int) < (n : Int) := by omega
        have hj0 : (0 : Int) ≤ (j : Int) := by omega
        have hjl : j < l.length := by rw [← NN.out]; exact hlt
        have hjm : j < m.length := by rw [← KK.out]; exact hlt
        obtain ⟨a1, rfl⟩ := G1.out (by omega)
        obtain ⟨a2, rfl⟩ := G2.out (by omega)
        obtain ⟨x, hx⟩ : ∃ x, x = l[j] := ⟨_, rfl⟩
        obtain ⟨y, hy⟩ : ∃ y, y = m[j] := ⟨_, rfl⟩
        have HX := Lib.hid hx
        have HY := Lib.hid hy
        obtain ⟨wd, hwd⟩ : ∃ v, v = wr.drew := ⟨_, rfl⟩
        have HWD := Lib.hid hwd
        have BD := Lib.hid (show Below w.heap.size w wd by rw [hwd]; exact HB.out.drew)
        have c1 := R1.out a1 rfl wd BD.out j hjl
        have c2 := R2.out a2 rfl wd BD.out j hjm
        rw [← hx] at c1
        rw [← hy] at c2
        have TK := Lib.hid (show x = y → l.take (j + 1) = m.take (j + 1) from fun e => by
          rw [List.take_succ_eq_append_getElem hjl, List.take_succ_eq_append_getElem hjm, HT.out, ← HX.out, ← HY.out, e])
        have NE := Lib.hid (show x ≠ y → decide (l = m) = false from fun e => by
          rw [decide_eq_false_iff_not]
          intro h
          apply e
          rw [HX.out, HY.out]
          subst h
          rfl)
        clear hx hy hwd
        by_cases hxy : x = y
        · subst hxy
          have FT := Lib.hid (TK.out rfl)
          go_wp2_with fail
          refine wp_region_held_drew (S := (fun W => W = wd)) (by kernel_rfl) (by rw [← HWD.out]) (fun hHeld => ?_)
          rw [← HWD.out] at hHeld ⊢
          refine wpAnyH_take (i := 0) (v := ?vA0) rfl (by kernel_rfl) (by kernel_rfl) (by kernel_rfl) (fun _ _ _ h => h) (Or.inl ⟨by rfl, ?yA0⟩) hHeld ?rA0
          case yA0 => (intro W hSw; subst hSw; simp only [List.getElem_toArray, List.getElem_cons_zero]; go_simp; try (with_reducible rfl))
          simp only [List.getElem_toArray, List.getElem_cons_zero, Act.put, List.setIfInBounds_toArray, List.set_cons_zero, List.set_cons_succ]
          refine wpAnyH_take (i := 1) (v := ?vA1) rfl (by kernel_rfl) (by kernel_rfl) (by kernel_rfl) (fun _ _ _ h => h) (Or.inl ⟨by rfl, ?yA1⟩) hHeld ?rA1
          case yA1 => (intro W hSw; subst hSw; simp only [List.getElem_toArray, List.getElem_cons_succ, List.getElem_cons_zero]; go_simp; try (with_reducible rfl))
          simp only [List.getElem_toArray, List.getElem_cons_succ, List.getElem_cons_zero, Act.put, List.setIfInBounds_toArray, List.set_cons_zero, List.set_cons_succ]
          refine wpAnyH_take (i := 2) (v := ?vA2) rfl (by kernel_rfl) (by kernel_rfl) (by kernel_rfl) (fun _ _ _ h => h) (Or.inl ⟨by rfl, ?yA2⟩) hHeld ?rA2
          case yA2 => (intro W hSw; subst hSw; simp only [List.getElem_toArray, List.getElem_cons_succ, List.getElem_cons_zero]; go_simp; try (with_reducible rfl))
          simp only [List.getElem_toArray, List.getElem_cons_succ, List.getElem_cons_zero, Act.put, List.setIfInBounds_toArray, List.set_cons_zero, List.set_cons_succ]
          refine wpAnyH_take (i := 3) (v := ?vA3) rfl (by kernel_rfl) (by kernel_rfl) (by kernel_rfl) (fun _ _ _ h => h) (Or.inl ⟨by rfl, ?yA3⟩) hHeld ?rA3
          case yA3 => (intro W hSw; subst hSw; simp only [List.getElem_toArray, List.getElem_cons_succ, List.getElem_cons_zero]; go_simp; try (with_reducible rfl))
          simp only [List.getElem_toArray, List.getElem_cons_succ, List.getElem_cons_zero, Act.put, List.setIfInBounds_toArray, List.set_cons_zero, List.set_cons_succ]
          refine wpAnyH_take (i := 4) (v := ?vA4) rfl (by kernel_rfl) (by kernel_rfl) (by kernel_rfl) (fun _ _ _ h => h) (Or.inl ⟨by rfl, ?yA4⟩) hHeld ?rA4
          case yA4 => (intro W hSw; subst hSw; simp only [List.getElem_toArray, List.getElem_cons_succ, List.getElem_cons_zero]; go_simp; try (with_reducible rfl))
          simp only [List.getElem_toArray, List.getElem_cons_succ, List.getElem_cons_zero, Act.put, List.setIfInBounds_toArray, List.set_cons_zero, List.set_cons_succ]
          refine wpAnyH_take (i := 5) (v := ?vA5) rfl (by kernel_rfl) (by kernel_rfl) (by kernel_rfl) (fun _ _ _ h => h) (Or.inl ⟨by rfl, ?yA5⟩) hHeld ?rA5
          case yA5 => (intro W hSw; subst hSw; simp only [List.getElem_toArray, List.getElem_cons_succ, List.getElem_cons_zero]; go_simp; try (with_reducible rfl))
          simp only [List.getElem_toArray, List.getElem_cons_succ, List.getElem_cons_zero, Act.put, List.setIfInBounds_toArray, List.set_cons_zero, List.set_cons_succ]
          refine wpAnyH_take (i := 6) (v := ?vA6) rfl (by kernel_rfl) (by kernel_rfl) (by kernel_rfl) (fun _ _ _ h => h) (Or.inl ⟨by rfl, ?yA6⟩) hHeld ?rA6
          case yA6 => (intro W hSw; subst hSw; simp only [List.getElem_toArray, List.getElem_cons_succ, List.getElem_cons_zero]; go_simp; try (with_reducible rfl))
          simp only [List.getElem_toArray, List.getElem_cons_succ, List.getElem_cons_zero, Act.put, List.setIfInBounds_toArray, List.set_cons_zero, List.set_cons_succ]
          refine wpAnyH_take (i := 7) (v := ?vA7) rfl (by kernel_rfl) (by kernel_rfl) (by kernel_rfl) (fun _ _ _ h => h) (Or.inl ⟨by rfl, ?yA7⟩) hHeld ?rA7
          case yA7 => (intro W hSw; subst hSw; simp only [List.getElem_toArray, List.getElem_cons_succ, List.getElem_cons_zero]; go_simp; try (with_reducible rfl))
          simp only [List.getElem_toArray, List.getElem_cons_succ, List.getElem_cons_zero, Act.put, List.setIfInBounds_toArray, List.set_cons_zero, List.set_cons_succ]
          refine wpAnyH_take (i := 8) (v := ?vA8) rfl (by kernel_rfl) (by kernel_rfl) (by kernel_rfl) (fun _ _ _ h => h) (Or.inl ⟨by rfl, ?yA8⟩) hHeld ?rA8
          case yA8 => (intro W hSw; subst hSw; simp only [List.getElem_toArray, List.getElem_cons_succ, List.getElem_cons_zero]; go_simp; try (with_reducible rfl))
          simp only [List.getElem_toArray, List.getElem_cons_succ, List.getElem_cons_zero, Act.put, List.setIfInBounds_toArray, List.set_cons_zero, List.set_cons_succ]
          refine wpAnyH_done (by kernel_rfl) ?_ _
          go_wp2_with fail
          go_roundw
          case rel => exact ⟨j + 1, by go_num, by rw [← NN.out]; omega, FT.out, BD.out⟩
          case measure => simp [intOf]; omega
        · go_wp2_with fail
          refine wp_region_held_drew (S := (fun W => W = wd)) (by kernel_rfl) (by rw [← HWD.out]) (fun hHeld => ?_)
          rw [← HWD.out] at hHeld ⊢
          refine wpAnyH_take (i := 0) (v := ?vB0) rfl (by kernel_rfl) (by kernel_rfl) (by kernel_rfl) (fun _ _ _ h => h) (Or.inl ⟨by rfl, ?yB0⟩) hHeld ?rB0
          case yB0 => (intro W hSw; subst hSw; simp only [List.getElem_toArray, List.getElem_cons_zero]; go_simp; try (with_reducible rfl))
          simp only [List.getElem_toArray, List.getElem_cons_zero, Act.put, List.setIfInBounds_toArray, List.set_cons_zero, List.set_cons_succ]
          refine wpAnyH_take (i := 1) (v := ?vB1) rfl (by kernel_rfl) (by kernel_rfl) (by kernel_rfl) (fun _ _ _ h => h) (Or.inl ⟨by rfl, ?yB1⟩) hHeld ?rB1
          case yB1 => (intro W hSw; subst hSw; simp only [List.getElem_toArray, List.getElem_cons_succ, List.getElem_cons_zero]; go_simp; try (with_reducible rfl))
          simp only [List.getElem_toArray, List.getElem_cons_succ, List.getElem_cons_zero, Act.put, List.setIfInBounds_toArray, List.set_cons_zero, List.set_cons_succ]
          refine wpAnyH_take (i := 2) (v := ?vB2) rfl (by kernel_rfl) (by kernel_rfl) (by kernel_rfl) (fun _ _ _ h => h) (Or.inl ⟨by rfl, ?yB2⟩) hHeld ?rB2
          case yB2 => (intro W hSw; subst hSw; simp only [List.getElem_toArray, List.getElem_cons_succ, List.getElem_cons_zero]; go_simp; try (with_reducible rfl))
          simp only [List.getElem_toArray, List.getElem_cons_succ, List.getElem_cons_zero, Act.put, List.setIfInBounds_toArray, List.set_cons_zero, List.set_cons_succ]
          refine wpAnyH_take (i := 3) (v := ?vB3) rfl (by kernel_rfl) (by kernel_rfl) (by kernel_rfl) (fun _ _ _ h => h) (Or.inl ⟨by rfl, ?yB3⟩) hHeld ?rB3
          case yB3 => (intro W hSw; subst hSw; simp only [List.getElem_toArray, List.getElem_cons_succ, List.getElem_cons_zero]; go_simp; try (with_reducible rfl))
          simp only [List.getElem_toArray, List.getElem_cons_succ, List.getElem_cons_zero, Act.put, List.setIfInBounds_toArray, List.set_cons_zero, List.set_cons_succ]
          refine wpAnyH_take (i := 4) (v := ?vB4) rfl (by kernel_rfl) (by kernel_rfl) (by kernel_rfl) (fun _ _ _ h => h) (Or.inl ⟨by rfl, ?yB4⟩) hHeld ?rB4
          case yB4 => (intro W hSw; subst hSw; simp only [List.getElem_toArray, List.getElem_cons_succ, List.getElem_cons_zero]; go_simp; try (with_reducible rfl))
          simp only [List.getElem_toArray, List.getElem_cons_succ, List.getElem_cons_zero, Act.put, List.setIfInBounds_toArray, List.set_cons_zero, List.set_cons_succ]
          refine wpAnyH_take (i := 5) (v := ?vB5) rfl (by kernel_rfl) (by kernel_rfl) (by kernel_rfl) (fun _ _ _ h => h) (Or.inl ⟨by rfl, ?yB5⟩) hHeld ?rB5
          case yB5 => (intro W hSw; subst hSw; simp only [List.getElem_toArray, List.getElem_cons_succ, List.getElem_cons_zero]; go_simp; try (with_reducible rfl))
          simp only [List.getElem_toArray, List.getElem_cons_succ, List.getElem_cons_zero, Act.put, List.setIfInBounds_toArray, List.set_cons_zero, List.set_cons_succ]
          refine wpAnyH_take (i := 6) (v := ?vB6) rfl (by kernel_rfl) (by kernel_rfl) (by kernel_rfl) (fun _ _ _ h => h) (Or.inl ⟨by rfl, ?yB6⟩) hHeld ?rB6
          case yB6 => (intro W hSw; subst hSw; simp only [List.getElem_toArray, List.getElem_cons_succ, List.getElem_cons_zero]; go_simp; try (with_reducible rfl))
          simp only [List.getElem_toArray, List.getElem_cons_succ, List.getElem_cons_zero, Act.put, List.setIfInBounds_toArray, List.set_cons_zero, List.set_cons_succ]
          refine wpAnyH_take (i := 7) (v := ?vB7) rfl (by kernel_rfl) (by kernel_rfl) (by kernel_rfl) (fun _ _ _ h => h) (Or.inl ⟨by rfl, ?yB7⟩) hHeld ?rB7
          case yB7 => (intro W hSw; subst hSw; simp only [List.getElem_toArray, List.getElem_cons_succ, List.getElem_cons_zero]; go_simp; try (with_reducible rfl))
          simp only [List.getElem_toArray, List.getElem_cons_succ, List.getElem_cons_zero, Act.put, List.setIfInBounds_toArray, List.set_cons_zero, List.set_cons_succ]
          refine wpAnyH_take (i := 8) (v := ?vB8) rfl (by kernel_rfl) (by kernel_rfl) (by kernel_rfl) (fun _ _ _ h => h) (Or.inl ⟨by rfl, ?yB8⟩) hHeld ?rB8
          case yB8 => (intro W hSw; subst hSw; simp only [List.getElem_toArray, List.getElem_cons_succ, List.getElem_cons_zero]; go_simp; try (with_reducible rfl))
          simp only [List.getElem_toArray, List.getElem_cons_succ, List.getElem_cons_zero, Act.put, List.setIfInBounds_toArray, List.set_cons_zero, List.set_cons_succ]
          refine wpAnyH_done (by kernel_rfl) ?_ _
          go_wp2_with fail
          go_ret
          exact ⟨by rw [NE.out hxy]; rfl, BD.out⟩
      · have hlz : ¬ (j : Int) < (n : Int) := by omega
        go_wp2_with fail
        go_ret
        refine ⟨?_, HB.out⟩
        have h := HT.out
        rw [List.take_of_length_le (by rw [← NN.out]; omega), List.take_of_length_le (by rw [← KK.out]; omega)] at h
        rw [h]
        simp
  · have hz : ¬ (n : Int) = (k : Int) := by omega
    clear h1 h2 g1 g2 r1 r2 hn hk
    go_enter Tryz.func18, Tryz.ntmps18
    go_wp2_with fail
    go_ret
    refine ⟨?_, Below.refl _ _⟩
    rw [decide_eq_false (fun e => hnk (by rw [NN.out, KK.out, e]))]
    rfl
end Go.Proofs.YtobkgamcjfjghaaGreat.Rt
/-
  What Nodes has between its rounds: the nodes told so far, those to be told, the rows of kids' numbers. No function of the program here.
-/
namespace Go.Proofs.YtobkgamcjfjghaaGreat.Rt
open Go.RowKit Go.Joins Go.Proofs.YtobkgamcjfjghaaGreat.Pt Go.Proofs.YtobkgamcjfjghaaGreat.Rc Go.Proofs.YtobkgamcjfjghaaGreat.Rs
set_option linter.unusedVariables false
set_option linter.unusedSimpArgs false
set_option maxRecDepth 100000
/-- A told node: its part, its level, where its kids' numbers begin, its row of kids' numbers. -/
structure Tn where
  b : Nat
  l : Nat
  s : Nat
  g : Nat
def Tn.cells (σ : St) (t : Tn) : List Value := [.int .i64 (t.l : Int), .int .i64 (rOf σ t.b).x1, .int .i64 (rOf σ t.b).y1, .int .i64 (rOf σ t.b).x2, .int .i64 (rOf σ t.b).y2, .slice (some ⟨t.g, 0, none⟩) (kidsOf σ t.b).length (kidsOf σ t.b).length]
def Tn.kids (σ : St) (t : Tn) : List Int := if t.l = 0 then (kidsOf σ t.b).map (idOf σ) else (List.range (kidsOf σ t.b).length).map fun (j : Nat) => ((t.s + j : Nat) : Int)
theorem Tn.klen (σ : St) (t : Tn) : (t.kids σ).length = (kidsOf σ t.b).length := by unfold Tn.kids; split <;> simp
def KRow (W : World) (g : Nat) (xs : List Int) : Prop := W.heap[g]? = some (.cells (xs.map (Value.int .i64)).toArray 3 (0, 0))
theorem tn_at (σ : St) : ∀ (T : List Tn) (k c : Nat) (hk : k < T.length) (hc : c < 6), (T.flatMap (Tn.cells σ))[k * 6 + c]? = (T[k].cells σ)[c]?
  | x :: xs, 0, c, hk, hc => by
    rw [List.flatMap_cons, List.getElem?_append_left (by simp [Tn.cells]; omega)]
    simp
  | x :: xs, k + 1, c, hk, hc => by
    rw [List.flatMap_cons, List.getElem?_append_right (by simp [Tn.cells]; omega)]
    have e : (k + 1) * 6 + c - (x.cells σ).length = k * 6 + c := by simp [Tn.cells]; omega
    rw [e]
    simpa using tn_at σ xs k c (by simpa using hk) hc
theorem KRow.cell {W : World} {g : Nat} {xs : List Int} (h : KRow W g xs) (j : Nat) (hj : j < xs.length) : W.cell? ⟨g, j, none⟩ = some (.int .i64 xs[j]) := by
  simp [World.cell?, show W.heap[g]? = _ from h, hj]
/-- Rows of two types lie in two blocks. -/
theorem own_tag {W : World} {base size n : Nat} {t : TypeId} {v : Value} {xs : List Value} (h : W.ownsRow base t size v n xs) {k : Nat} (hk : v.ownBlock = some k) : ∃ cur, W.heap[k]? = some (.cells cur t (0, 0)) := by
  rcases h.2 with ⟨e, _⟩ | ⟨g, cap, cur, e, _, hh, _⟩
  · rw [e] at hk; cases hk
  · rw [e] at hk
    have : g = k := by simpa [Value.ownBlock] using hk
    subst this
    exact ⟨cur, hh⟩
theorem own_two {W : World} {b1 b2 s1 s2 n1 n2 : Nat} {t1 t2 : TypeId} {v1 v2 : Value} {x1 x2 : List Value} (h1 : W.ownsRow b1 t1 s1 v1 n1 x1) (h2 : W.ownsRow b2 t2 s2 v2 n2 x2) (ht : t1 ≠ t2) : v1.ownBlock = none ∨ v1.ownBlock ≠ v2.ownBlock := by
  cases e1 : v1.ownBlock with
  | none => exact Or.inl rfl
  | some k =>
    refine Or.inr fun e2 => ht ?_
    obtain ⟨c1, o1⟩ := own_tag h1 e1
    obtain ⟨c2, o2⟩ := own_tag h2 e2.symm
    rw [o1] at o2
    cases o2
    rfl
theorem own_krow {W : World} {b1 s1 n1 : Nat} {t1 : TypeId} {v1 : Value} {x1 : List Value} {g : Nat} {xs : List Int} (h1 : W.ownsRow b1 t1 s1 v1 n1 x1) (h2 : KRow W g xs) (ht : t1 ≠ 3) : some g ≠ v1.ownBlock := fun e => ht (by
  obtain ⟨c1, o1⟩ := own_tag h1 e.symm
  rw [show W.heap[g]? = _ from h2] at o1
  cases o1
  rfl)
theorem KRow.lt {W : World} {g : Nat} {xs : List Int} (h : KRow W g xs) : g < W.heap.size := (Array.getElem?_eq_some_iff.1 (show W.heap[g]? = _ from h)).1
theorem KRow.kept {W W' : World} {row : Option Nat} {g : Nat} {xs : List Int} (h : KRow W g xs) (hg : W.grownBy W' row) (hne : some g ≠ row) : KRow W' g xs := (hg.block g h.lt hne).trans h
theorem KRow.own {W : World} {base g n : Nat} {xs : List Int} (h : W.ownsRow base 3 1 (.slice (some ⟨g, 0, none⟩) n n) n (xs.map (Value.int .i64))) : KRow W g xs := by
  have hl := h.1
  rcases h.2 with ⟨e, _⟩ | ⟨g', cap, cur, e, _, hh, _, _, hs, ht⟩
  · cases e
  · cases e
    unfold KRow
    rw [hh, ← ht, ← hs, ← Array.length_toList, List.take_length, Array.toArray_toList]
/-- The parts that are to be told besides, when j kids of a part have been gone through. -/
def nx (l : Nat) (ks : List Nat) (j : Nat) : List Nat := if l = 0 then [] else ks.take j
theorem nx_leaf (ks : List Nat) (j : Nat) : nx 0 ks j = [] := rfl
theorem nx_node (l : Nat) (ks : List Nat) (j : Nat) : nx (l + 1) ks j = ks.take j := by unfold nx; rw [if_neg (by omega)]
structure No (w : World) (σ : St) (lo hi h root i : Nat) (L : List (Nat × Nat)) (T : List Tn) (vt vn : Value) (W : World) : Prop where
  bf : Bf σ lo hi h root i L (T.map Tn.s)
  pre : T.map (fun t => (t.b, t.l)) = L.take i
  nodes : W.ownsRow w.heap.size 61 1 vn L.length ((L.map Prod.fst).map ptr)
  told : W.ownsRow w.heap.size 81 6 vt i (T.flatMap (Tn.cells σ))
  kids : ∀ t ∈ T, KRow W t.g (t.kids σ)
  below : Below w.heap.size w W
structure Ni (w : World) (σ : St) (L : List (Nat × Nat)) (T : List Tn) (i : Nat) (t : Tn) (j : Nat) (vt vn : Value) (W : World) : Prop where
  nodes : W.ownsRow w.heap.size 61 1 vn (L.length + (nx t.l (kidsOf σ t.b) j).length) ((L.map Prod.fst ++ nx t.l (kidsOf σ t.b) j).map ptr)
  row : ∃ xs, W.ownsRow w.heap.size 3 1 (.slice (some ⟨t.g, 0, none⟩) (kidsOf σ t.b).length (kidsOf σ t.b).length) (kidsOf σ t.b).length xs ∧ xs.take j = ((t.kids σ).map (Value.int .i64)).take j
  told : W.ownsRow w.heap.size 81 6 vt i (T.flatMap (Tn.cells σ))
  kids : ∀ u ∈ T, KRow W u.g (u.kids σ)
  fresh : ∀ u ∈ T, u.g ≠ t.g
  below : Below w.heap.size w W
section
variable {w W W' : World} {σ : St} {lo hi h root i : Nat} {L : List (Nat × Nat)} {T : List Tn} {vt vn vn0 : Value} {t : Tn} {j : Nat} {W0 : World}
theorem No.begin (hn : Nd σ lo hi (h + 1) root) (hb : Below w.heap.size w W) : No w σ lo hi h root 0 [(root, h)] [] (.slice none 0 0) (.slice (some ⟨W.heap.size, 0, none⟩) 1 1) (W.alloc (.cells #[ptr root] 61)) :=
  ⟨Bf.begin hn, rfl, ⟨rfl, Or.inr ⟨W.heap.size, 1, _, rfl, hb.size, (MapKept.heap_alloc W _).1, Nat.le_refl _, by unfold maxLen; omega, rfl, rfl⟩⟩, World.ownsRow_nil _ _ _ _, (fun t ht => by cases ht), hb.alloc hb.size _⟩
/-- A row for the kids' numbers is made. -/
theorem No.made (x : No w σ lo hi h root i L T vt vn W) (hg : W.grownBy W' none) {xs : List Value} (hr : W'.ownsRow w.heap.size 3 1 (.slice (some ⟨W.heap.size, 0, none⟩) (kidsOf σ t.b).length (kidsOf σ t.b).length) (kidsOf σ t.b).length xs) (ht : t.g = W.heap.size) : Ni w σ L T i t 0 vt vn W' := by
  have z : ∀ {v : Value}, v.ownBlock = none ∨ v.ownBlock ≠ (none : Option Nat) := fun {v} => by cases v.ownBlock <;> simp
  refine ⟨?_, ⟨xs, by rw [ht]; exact hr, rfl⟩, x.told.kept hg z, fun u hu => (x.kids u hu).kept hg (by simp), fun u hu => by have := (x.kids u hu).lt; omega, x.below.grown hg x.below.size (fun k hk => by cases hk)⟩
  have e : nx t.l (kidsOf σ t.b) 0 = [] := by unfold nx; split <;> simp
  rw [e, List.append_nil, List.length_nil, Nat.add_zero]
  exact x.nodes.kept hg z
/-- A kid's number is stored. -/
theorem Ni.stored (x : Ni w σ L T i t j vt vn W) (hj : j < (kidsOf σ t.b).length) {n : Int} (hn : (t.kids σ)[j]? = some n) :
    ∃ xs, (W.setCell ⟨t.g, j, none⟩ (.int .i64 n)).ownsRow w.heap.size 3 1 (.slice (some ⟨t.g, 0, none⟩) (kidsOf σ t.b).length (kidsOf σ t.b).length) (kidsOf σ t.b).length xs ∧ xs.take (j + 1) = ((t.kids σ).map (Value.int .i64)).take (j + 1) := by
  obtain ⟨xs, hr, hx⟩ := x.row
  refine ⟨xs.set j (.int .i64 n), (hr.stored j _).1, take_set (by have := hr.1; omega) hx ?_⟩
  rw [List.getElem?_map, hn]
  rfl
theorem Ni.leaf (x : Ni w σ L T i t j vt vn W) (hl : t.l = 0) (hj : j < (kidsOf σ t.b).length) {n : Int} (hn : (t.kids σ)[j]? = some n) : Ni w σ L T i t (j + 1) vt vn (W.setCell ⟨t.g, j, none⟩ (.int .i64 n)) := by
  obtain ⟨xs0, hr, hx⟩ := id x.row
  have hg := (hr.stored j (.int .i64 n)).2
  have e : nx t.l (kidsOf σ t.b) (j + 1) = nx t.l (kidsOf σ t.b) j := by rw [hl, nx_leaf, nx_leaf]
  refine ⟨by rw [e]; exact x.nodes.kept hg (own_two x.nodes hr (by decide)), x.stored hj hn, x.told.kept hg (own_two x.told hr (by decide)), fun u hu => (x.kids u hu).kept hg (fun e => x.fresh u hu (Option.some.inj e)), x.fresh, x.below.grown hg x.below.size (fun k hk => ?_)⟩
  cases hk
  rcases hr.2 with ⟨e, _⟩ | ⟨g', cap, cur, e, hb, _⟩
  · cases e
  · cases e; exact hb
/-- A kid's number is stored, the kid itself is to be told. -/
theorem Ni.mid (x : Ni w σ L T i t j vt vn W) (n : Int) (o : Obj) : ((W.setCell ⟨t.g, j, none⟩ (.int .i64 n)).alloc o).ownsRow w.heap.size 61 1 vn (L.length + (nx t.l (kidsOf σ t.b) j).length) ((L.map Prod.fst ++ nx t.l (kidsOf σ t.b) j).map ptr) ∧ w.heap.size ≤ ((W.setCell ⟨t.g, j, none⟩ (.int .i64 n)).alloc o).heap.size := by
  obtain ⟨xs0, hr, hx⟩ := id x.row
  have hg := (hr.stored j (.int .i64 n)).2
  exact ⟨(x.nodes.kept hg (own_two x.nodes hr (by decide))).alloc o, Nat.le_trans x.below.size (Nat.le_trans hg.size (by simp))⟩
theorem Ni.node {vn' : Value} {n : Int} {k : Nat} {o : Obj} (x : Ni w σ L T i t j vt vn W) (hl : t.l ≠ 0) (hj : j < (kidsOf σ t.b).length) (hn : (t.kids σ)[j]? = some n) (hk : (kidsOf σ t.b)[j]? = some k)
    (hown : W'.ownsRow w.heap.size 61 1 vn' (L.length + (nx t.l (kidsOf σ t.b) j).length + 1) ((L.map Prod.fst ++ nx t.l (kidsOf σ t.b) j).map ptr ++ [ptr k])) (hgrow : ((W.setCell ⟨t.g, j, none⟩ (.int .i64 n)).alloc o).grownBy W' vn.ownBlock) :
    Ni w σ L T i t (j + 1) vt vn' W' := by
  obtain ⟨xs0, hr, hx⟩ := id x.row
  have hg := (hr.stored j (.int .i64 n)).2
  obtain ⟨xs, hr2, hx2⟩ := x.stored hj hn
  have n1 : (W.setCell ⟨t.g, j, none⟩ (.int .i64 n)).ownsRow w.heap.size 61 1 vn (L.length + (nx t.l (kidsOf σ t.b) j).length) ((L.map Prod.fst ++ nx t.l (kidsOf σ t.b) j).map ptr) := x.nodes.kept hg (own_two x.nodes hr (by decide))
  have ga : (W.setCell ⟨t.g, j, none⟩ (.int .i64 n)).grownBy W' vn.ownBlock := (World.grownBy_alloc _ o _).trans hgrow
  have e : nx t.l (kidsOf σ t.b) (j + 1) = nx t.l (kidsOf σ t.b) j ++ [k] := by
    unfold nx
    rw [if_neg hl, if_neg hl, List.take_add_one, hk]
    rfl
  have gb : ∀ k, vn.ownBlock = some k → w.heap.size ≤ k := fun k hk => (x.nodes.lt k hk).1
  have t1 : (W.setCell ⟨t.g, j, none⟩ (.int .i64 n)).ownsRow w.heap.size 81 6 vt i (T.flatMap (Tn.cells σ)) := x.told.kept hg (own_two x.told hr (by decide))
  refine ⟨?_, ⟨xs, hr2.kept ga (own_two hr2 n1 (by decide)), hx2⟩, t1.kept ga (own_two t1 n1 (by decide)), fun u hu => ?_, x.fresh, ?_⟩
  · rw [e, List.length_append, ← List.append_assoc, List.map_append]
    exact hown
  · have := (x.kids u hu).kept hg (fun e => x.fresh u hu (Option.some.inj e))
    exact this.kept ga (own_krow n1 this (by decide))
  · have := x.below.grown hg x.below.size (fun k hk => by
      cases hk
      rcases hr.2 with ⟨e, _⟩ | ⟨g', cap, cur, e, hb, _⟩
      · cases e
      · cases e; exact hb)
    exact this.grown ga this.size gb
/-- All kids have been gone through: the node is told. -/
theorem Ni.done {vt' : Value} {n : Nat} {o : Obj} (x0 : No w σ lo hi h root i L T vt vn0 W0) (x : Ni w σ L T i t n vt vn W) (hn : n = (kidsOf σ t.b).length) (hL : L[i]? = some (t.b, t.l)) (hs : t.s = L.length)
    (hown : W'.ownsRow w.heap.size 81 6 vt' (i + 1) (T.flatMap (Tn.cells σ) ++ t.cells σ)) (hgrow : (W.alloc o).grownBy W' vt.ownBlock) :
    No w σ lo hi h root (i + 1) (L ++ (nx t.l (kidsOf σ t.b) n).map fun k => (k, t.l - 1)) (T ++ [t]) vt' vn W' := by
  obtain ⟨hi', hLi⟩ := List.getElem?_eq_some_iff.1 hL
  have ga : W.grownBy W' vt.ownBlock := (World.grownBy_alloc _ o _).trans hgrow
  obtain ⟨xs, hr, hx⟩ := id x.row
  have hxs : xs = (t.kids σ).map (Value.int .i64) := by
    have l1 : xs.length = n := by have := hr.1; omega
    have l2 : ((t.kids σ).map (Value.int .i64)).length = n := by rw [List.length_map, Tn.klen, hn]
    rw [List.take_of_length_le (by omega), List.take_of_length_le (by omega)] at hx
    exact hx
  rw [hxs] at hr
  refine ⟨?_, ?_, ?_, ?_, fun u hu => ?_, ?_⟩
  · rw [List.map_append, hn]
    cases hl : t.l with
    | zero =>
      rw [nx_leaf, List.map_nil, List.append_nil]
      exact x0.bf.leaf hi' (by rw [hLi, hl])
    | succ l =>
      rw [nx_node, List.take_length, show [t].map Tn.s = [L.length] by simp [hs]]
      exact x0.bf.node hi' (by rw [hLi, hl]; rfl)
  · rw [List.map_append, x0.pre, List.take_append_of_le_length (by omega), List.take_succ_eq_append_getElem hi', hLi]
    rfl
  · have := x.nodes.kept ga (own_two x.nodes x.told (by decide))
    rw [List.length_append, List.length_map, List.map_append, List.map_map]
    rw [show (Prod.fst ∘ fun k => (k, t.l - 1)) = (id : Nat → Nat) from rfl, List.map_id]
    exact this
  · rw [List.flatMap_append, List.flatMap_singleton]
    exact hown
  · rcases List.mem_append.1 hu with hu | hu
    · exact (x.kids u hu).kept ga (own_krow x.told (x.kids u hu) (by decide))
    · rw [List.mem_singleton] at hu
      subst hu
      exact (KRow.own hr).kept ga (own_krow x.told (KRow.own hr) (by decide))
  · exact x.below.grown ga x.below.size fun k hk => (x.told.lt k hk).1
end
end Go.Proofs.YtobkgamcjfjghaaGreat.Rt
namespace Go.Proofs.YtobkgamcjfjghaaGreat.Rt
open Go.RowKit Go.Joins Go.Proofs.YtobkgamcjfjghaaGreat.Pt Go.Proofs.YtobkgamcjfjghaaGreat.Rc Go.Proofs.YtobkgamcjfjghaaGreat.Rs
set_option linter.unusedVariables false
set_option linter.unusedSimpArgs false
set_option maxHeartbeats 4000000
set_option maxRecDepth 100000
theorem A.infoNd : (Tryz.prog.info? 81).map (fun i => (i.zero, i.size, i.bytes)) = some (some (.agg #[.int .i64 0, .int .i64 0, .int .i64 0, .int .i64 0, .int .i64 0, .slice none 0 0]), 6, 64) := by kernel_rfl
theorem A.infoNi : (Tryz.prog.info? 3).map (fun i => (i.zero, i.size, i.bytes)) = some (some (.int .i64 0), 1, 8) := by kernel_rfl
def NoR (w : World) (σ : St) (hi h root : Nat) (vt vn vi : Value) (wr : World) : Prop := ∃ i L T, vi = .int .i64 (i : Nat) ∧ No w σ 0 hi h root i L T vt vn wr
def NiR (w : World) (σ : St) (L : List (Nat × Nat)) (T : List Tn) (i : Nat) (t : Tn) (vt vn vj : Value) (wr : World) : Prop := ∃ j : Nat, vj = .int .i64 (j : Nat) ∧ j ≤ (kidsOf σ t.b).length ∧ Ni w σ L T i t j vt vn wr
def NodesE (σ : St) (hi h root : Nat) (w : World) (e : Ending) (w' : World) : Prop := ∃ s vn L T, e = .returned s ∧ No w σ 0 hi h root L.length L T s vn w'
theorem nodes_any (t o mb root h : Nat) (σ : St) (V : Nat → Value) (lo hi rlo : Nat) (E G : List Nat) (w : World) (hM : Mem w σ V) (hT : TAt w t o mb root) (ht : Tree σ lo hi rlo h root E G) (hhi : hi ≤ 20) (hN : (inn σ (h + 1) root).length ≤ 100000) :
    Calls Tryz.prog 21 #[ptr t] w (NodesE σ hi h root w) := by
  obtain ⟨-, -, t2⟩ := hT.cells
  have HM := Lib.hid hM
  obtain ⟨i0, hi0, hz0, hz1, hz2⟩ := info_parts A.infoPp
  obtain ⟨i1, hi1, hx0, hx1, hx2⟩ := info_parts A.infoNi
  obtain ⟨i2, hi2, hy0, hy1, hy2⟩ := info_parts A.infoNd
  have R0 := Lib.hid (show NoR w σ hi h root (.slice none 0 0) (.slice (some ⟨w.heap.size, 0, none⟩) 1 1) (.int .i64 (0 : Nat)) (w.alloc (.cells #[ptr root] 61)) from ⟨0, _, _, rfl, No.begin ht.nd (Below.refl _ _)⟩)
  have HN := Lib.hid hN
  unfold ptr at t2 R0 ⊢
  clear hM hT ht hN
  go_enter Tryz.func21, Tryz.ntmps21
  go_wp2_with fail
  go_loopw [3, 4, 5] (fun vt vn vi wr => NoR w σ hi h root vt vn vi wr) (fun _ _ vi _ => 100001 - (intOf vi).toNat)
  case atStart => exact R0.out
  case round =>
    clear R0 t2
    obtain ⟨i, L, T, rfl, hX⟩ := hrel
    have X := Lib.hid hX
    have hLb : L.length ≤ 100000 := Nat.le_trans hX.bf.len HN.out
    have hiL := hX.bf.le
    obtain ⟨m, hm⟩ : ∃ m, m = L.length := ⟨_, rfl⟩
    have MM := Lib.hid hm
    obtain ⟨gv, capv, evn⟩ : ∃ gv capv, u4 = .slice (some ⟨gv, 0, none⟩) m capv := by
      rcases hX.nodes.2 with ⟨e, e2⟩ | ⟨g, c, cur, e, _⟩
      · have h0 := hX.bf.head
        have : L = [] := List.length_eq_zero_iff.1 e2
        rw [this] at h0
        cases h0
      · exact ⟨g, c, by rw [hm]; exact e⟩
    subst evn
    rw [← hm] at hLb hiL
    by_cases hlt : i < m
    · have hlz : (i : Int) < (m : Int) := by omega
      have hi00 : (0 : Int) ≤ (i : Int) := by omega
      have hlL : i < L.length := by rw [← hm]; exact hlt
      obtain ⟨⟨b, l⟩, hLi⟩ : ∃ q, L[i] = q := ⟨_, rfl⟩
      have HLI := Lib.hid (show L[i]? = some (b, l) from by rw [List.getElem?_eq_getElem hlL, hLi])
      have sb := hX.bf.sound _ (List.getElem_mem hlL)
      rw [hLi] at sb
      obtain ⟨d, d1, d2, -, d4, -, d6⟩ := sb
      have c1 : wr.cell? ⟨gv, i, none⟩ = some (.pointer (some ⟨b, 0, none⟩)) := by
        have h1 := hX.nodes
        rw [← hm] at h1
        rw [h1.cellAt i (by omega), List.map_map, List.getElem?_map, HLI.out]
        rfl
      have P := HM.out.part b d d1
      obtain ⟨A0, c, hsv, hc1, hc2, hrow⟩ := P.kids
      obtain ⟨z0, z1, z2, z3, z4, z5, z6⟩ := P.cells
      rw [d2] at z0
      obtain ⟨n, hn⟩ : ∃ n, n = d.kids.length := ⟨_, rfl⟩
      rw [hsv, ← hn] at z6
      rw [← hn] at d4 hc1
      have NN := Lib.hid hn
      have KD := Lib.hid (kidsOf_some d1)
      have RD := Lib.hid (rOf_some d1)
      have D1 := Lib.hid d1
      have D6 := Lib.hid d6
      have HROW := Lib.hid hrow
      obtain ⟨r1, er1⟩ : ∃ r1, r1 = d.r.x1 := ⟨_, rfl⟩
      obtain ⟨r2, er2⟩ : ∃ r2, r2 = d.r.y1 := ⟨_, rfl⟩
      obtain ⟨r3, er3⟩ : ∃ r3, r3 = d.r.x2 := ⟨_, rfl⟩
      obtain ⟨r4, er4⟩ : ∃ r4, r4 = d.r.y2 := ⟨_, rfl⟩
      rw [← er1] at z1
      rw [← er2] at z2
      rw [← er3] at z3
      rw [← er4] at z4
      have HZ := Lib.hid (And.intro z0 (And.intro z1 (And.intro z2 (And.intro z3 z4))))
      have HZ6 := Lib.hid z6
      have hn20 : (n : Int) ≤ 20 := by omega
      have y6 := cell_later hX.below z6
      have CE := Lib.hid (show ∀ g, Tn.cells σ ⟨b, l, L.length, g⟩ = (#[.int .i64 (l : Int), .int .i64 r1, .int .i64 r2, .int .i64 r3, .int .i64 r4, .slice (some ⟨g, 0, none⟩) n n] : Array Value).toList from fun g => by
        unfold Tn.cells
        rw [RD.out, KD.out, er1, er2, er3, er4, hn])
      clear hX hLi d1 d2 d6 z0 z1 z2 z3 z4 z5 z6 hsv hrow hn er1 er2 er3 er4 hm hlL hlt P
      go_wp2_with (first | (at_make; refine wpList_make_full _ rfl _ _ 49 rfl w.heap.size 3 i1 (.int .i64 0) 1 Tryz.underlying49 hi1 hx0 hx1 .i64 .i64 _ n n rfl rfl rfl rfl (by rw [hx2]; omega) (by unfold maxLen; omega) X.out.below.size ?_))
      intro W1 hown hgrow
      obtain ⟨g, hg⟩ : ∃ g, g = wr.heap.size := ⟨_, rfl⟩
      have Y0 := Lib.hid (show NiR w σ L T i ⟨b, l, L.length, g⟩ u3 (.slice (some ⟨gv, 0, none⟩) m capv) (.int .i64 (0 : Nat)) W1 from ⟨0, rfl, Nat.zero_le _, X.out.made (xs := _) hgrow (by show W1.ownsRow _ _ _ (.slice (some ⟨wr.heap.size, 0, none⟩) (kidsOf σ b).length (kidsOf σ b).length) (kidsOf σ b).length _; rw [KD.out, ← NN.out]; exact hown) hg⟩)
      have BW1 := Y0.out.choose_spec.2.2.below
      have y6 := cell_later BW1 HZ6.out
      rw [← hg]
      clear hown hgrow c1 BW1 hg
      go_wp2_with fail
      go_loopw [4, 36] (fun vn vj wr => NiR w σ L T i ⟨b, l, L.length, g⟩ u3 vn vj wr) (fun _ vj _ => n - (intOf vj).toNat)
      case atStart => exact Y0.out
      case round =>
        clear Y0 y6
        obtain ⟨j, rfl, hj, hY⟩ := hrel
        have YY := Lib.hid hY
        rw [show (kidsOf σ (Tn.mk b l L.length g).b).length = n by show (kidsOf σ b).length = n; rw [KD.out, ← NN.out]] at hj
        have YB := Lib.hid hY.below
        by_cases hlt : j < n
        · have hlz : (j : Int) < (n : Int) := by omega
          have hj0 : (0 : Int) ≤ (j : Int) := by omega
          have hjd : j < d.kids.length := by rw [← NN.out]; exact hlt
          obtain ⟨q, eq, hq, hc⟩ := HROW.out (by omega)
          obtain ⟨k, hk⟩ : ∃ k, k = d.kids[j] := ⟨_, rfl⟩
          have c2 : wr.cell? ⟨q, j, none⟩ = some (.pointer (some ⟨k, 0, none⟩)) := by rw [hk]; exact cell_later YB.out (hc j hjd)
          have c0 := cell_later YB.out HZ.out.1
          obtain ⟨xs, hr0, -⟩ := hY.row
          have hr : wr.ownsRow w.heap.size 3 1 (.slice (some ⟨g, 0, none⟩) (kidsOf σ b).length (kidsOf σ b).length) (kidsOf σ b).length xs := hr0
          rw [KD.out, ← NN.out] at hr
          have len : xs.length = n * 1 := hr.1
          obtain ⟨u0, eu0⟩ : ∃ u, xs[j]? = some u := ⟨_, List.getElem?_eq_getElem (by omega)⟩
          have t0 := (hr.cellAt j (by omega)).trans eu0
          have tf := hr.frozenAt
          have HJK := Lib.hid (show j < (kidsOf σ (Tn.mk b l L.length g).b).length by show j < (kidsOf σ b).length; rw [KD.out]; exact hjd)
          have KJ := Lib.hid (show (kidsOf σ b)[j]? = some k by rw [KD.out, hk, List.getElem?_eq_getElem hjd])
          subst eq
          by_cases hl : l = 0
          · subst hl
            obtain ⟨dk, k1, -, -, -⟩ := D6.out k (by rw [hk]; exact List.getElem_mem hjd)
            have c5 := cell_later YB.out ((HM.out.part k dk k1).cells.2.2.2.2.2.1)
            obtain ⟨x, hx⟩ : ∃ x, x = dk.id := ⟨_, rfl⟩
            rw [← hx] at c5
            have FIN := Lib.hid (hY.leaf (n := x) rfl HJK.out (by
              unfold Tn.kids
              rw [if_pos rfl]
              show ((kidsOf σ b).map (idOf σ))[j]? = some x
              rw [List.getElem?_map, KJ.out, hx, ← idOf_some k1]
              rfl))
            clear hY hr hr0 len eu0 hk hx hc k1 hjd
            go_wp2_with fail
            go_roundw
            case rel => first | exact ⟨j + 1, by go_num, HJK.out, FIN.out⟩ | ((repeat apply Exists.intro); exact ⟨⟨j + 1, by go_num, HJK.out, FIN.out⟩, rfl⟩)
            case measure => simp [intOf]; omega
          · have hlb : ((l : Int) == 0) = false := by simp; omega
            have hnx : (nx l (kidsOf σ b) j).length = j := by unfold nx; rw [if_neg hl, List.length_take, KD.out]; omega
            have hN' : wr.ownsRow w.heap.size 61 1 u4 (L.length + (nx l (kidsOf σ b) j).length) ((L.map Prod.fst ++ nx l (kidsOf σ b) j).map ptr) := hY.nodes
            rw [hnx, ← MM.out] at hN'
            obtain ⟨q2, hq2⟩ : ∃ q2, q2 = m + j := ⟨_, rfl⟩
            rw [← hq2] at hN'
            obtain ⟨gn, cn, e4⟩ : ∃ gn cn, u4 = .slice (some ⟨gn, 0, none⟩) q2 cn := by
              rcases hN'.2 with ⟨e, e2⟩ | ⟨g', c', cur, e, _⟩
              · omega
              · exact ⟨g', c', e⟩
            subst e4
            obtain ⟨o1, o2⟩ := hY.mid (q2 : Int) (.cells #[ptr k] 61)
            have OW := Lib.hid (show ((wr.setCell ⟨g, j, none⟩ (.int .i64 (q2 : Int))).alloc (.cells #[ptr k] 61)).ownsRow w.heap.size 61 1 (.slice (some ⟨gn, 0, none⟩) q2 cn) q2 ((L.map Prod.fst ++ nx l (kidsOf σ b) j).map ptr) by
              have h1 : ((wr.setCell ⟨g, j, none⟩ (.int .i64 (q2 : Int))).alloc (.cells #[ptr k] 61)).ownsRow w.heap.size 61 1 (.slice (some ⟨gn, 0, none⟩) q2 cn) (L.length + (nx l (kidsOf σ b) j).length) ((L.map Prod.fst ++ nx l (kidsOf σ b) j).map ptr) := o1
              rw [hnx, ← MM.out, ← hq2] at h1
              exact h1)
            have BW := Lib.hid o2
            have hsz : (wr.setCell ⟨g, j, none⟩ (.int .i64 (q2 : Int))).heap.size = wr.heap.size := by simp
            have NW := Lib.hid (show ∀ i u, ([ptr k] : List Value)[i]? = some u → ((wr.setCell ⟨g, j, none⟩ (.int .i64 (q2 : Int))).alloc (.cells #[ptr k] 61)).cell? ((⟨wr.heap.size, 0, none⟩ : Addr).add i) = some u by
              rw [← hsz]
              exact cell_one_new _ _ _)
            have ONE := Lib.hid (show ∀ u ∈ ([ptr k] : List Value), u.oneCell' = true by intro u hu; simp at hu; subst hu; rfl)
            have KN := Lib.hid (show (Tn.kids σ ⟨b, l, L.length, g⟩)[j]? = some (q2 : Int) by
              unfold Tn.kids
              rw [if_neg hl]
              show ((List.range (kidsOf σ b).length).map fun (j : Nat) => ((L.length + j : Nat) : Int))[j]? = some (q2 : Int)
              rw [List.getElem?_map, List.getElem?_range HJK.out, hq2, MM.out]
              rfl)
            have YN := Lib.hid hY
            have NXL := Lib.hid (show q2 + 1 = L.length + (nx l (kidsOf σ b) j).length + 1 by rw [hnx, hq2, MM.out])
            obtain ⟨XS, hXS⟩ : ∃ XS, XS = (L.map Prod.fst ++ nx l (kidsOf σ b) j).map ptr := ⟨_, rfl⟩
            rw [← hXS] at OW
            have HXS := Lib.hid hXS
            have hq20 : q2 ≤ 100020 := by omega
            unfold ptr at OW NW ONE
            clear hY hr hr0 len eu0 hk hc hjd o1 o2 hN' hnx hXS hsz hq2
            go_wp2_with (first | (at_builtin; refine wpList_append_own_at _ rfl _ _ 73 rfl w.heap.size 61 i0 (.pointer none) 1 8 Tryz.underlying73 hi0 hz0 hz1 hz2 rfl (by decide) _ _ _ rfl OW.out ⟨wr.heap.size, 0, none⟩ 1 1 [.pointer (some ⟨k, 0, none⟩)] rfl rfl NW.out ONE.out (by unfold maxLen; omega) (by omega) BW.out ?_))
            intro v1 w4 hown hgrow _ _
            have FIN := Lib.hid (YN.out.node (k := k) (n := (q2 : Int)) (o := .cells #[ptr k] 61) hl HJK.out KN.out KJ.out (by
              have := hown
              rw [NXL.out, HXS.out] at this
              exact this) hgrow)
            clear hown hgrow
            go_wp2_with fail
            go_roundw
            case rel => first | exact ⟨j + 1, by go_num, HJK.out, FIN.out⟩ | ((repeat apply Exists.intro); exact ⟨⟨j + 1, by go_num, HJK.out, FIN.out⟩, rfl⟩)
            case measure => simp [intOf]; omega
        · have hlz : ¬ (j : Int) < (n : Int) := by omega
          have hjn : j = n := by omega
          have YT := Lib.hid hY.told
          rw [hjn] at YY
          have HS : Hid (∀ W, Below w.heap.size w W → (fun W => W.cell? ⟨b, 0, none⟩ = some (.int .i64 (l : Int)) ∧ W.cell? ⟨b, 1, none⟩ = some (.int .i64 r1) ∧ W.cell? ⟨b, 2, none⟩ = some (.int .i64 r2) ∧ W.cell? ⟨b, 3, none⟩ = some (.int .i64 r3) ∧ W.cell? ⟨b, 4, none⟩ = some (.int .i64 r4) ∧ Below w.heap.size w W) W) := Lib.hid fun W hB => ⟨cell_later hB HZ.out.1, cell_later hB HZ.out.2.1, cell_later hB HZ.out.2.2.1, cell_later hB HZ.out.2.2.2.1, cell_later hB HZ.out.2.2.2.2, hB⟩
          clear hY hjn hlt
          go_wp2_with fail
          refine wp_region_held_drew (S := (fun W => W.cell? ⟨b, 0, none⟩ = some (.int .i64 (l : Int)) ∧ W.cell? ⟨b, 1, none⟩ = some (.int .i64 r1) ∧ W.cell? ⟨b, 2, none⟩ = some (.int .i64 r2) ∧ W.cell? ⟨b, 3, none⟩ = some (.int .i64 r3) ∧ W.cell? ⟨b, 4, none⟩ = some (.int .i64 r4) ∧ Below w.heap.size w W)) (by kernel_rfl) (HS.out _ (YB.out.drew)) (fun hHeld => ?_)
          refine wpAnyH_take (i := 0) (v := ?vQ0) rfl (by kernel_rfl) (by kernel_rfl) (by kernel_rfl) (fun _ _ _ h => h) (Or.inl ⟨by rfl, ?yQ0⟩) hHeld ?rQ0
          case yQ0 => (intro W hSw; simp only [List.getElem_toArray, List.getElem_cons_zero]; go_simp; try (with_reducible rfl))
          simp only [List.getElem_toArray, List.getElem_cons_zero, Act.put, List.setIfInBounds_toArray, List.set_cons_zero, List.set_cons_succ]
          refine wpAnyH_take (i := 1) (v := ?vQ1) rfl (by kernel_rfl) (by kernel_rfl) (by kernel_rfl) (fun _ _ _ h => h) (Or.inl ⟨by rfl, ?yQ1⟩) hHeld ?rQ1
          case yQ1 => (intro W hSw; simp only [List.getElem_toArray, List.getElem_cons_succ, List.getElem_cons_zero]; go_simp; try (with_reducible rfl))
          simp only [List.getElem_toArray, List.getElem_cons_succ, List.getElem_cons_zero, Act.put, List.setIfInBounds_toArray, List.set_cons_zero, List.set_cons_succ]
          refine wpAnyH_take (i := 2) (v := ?vQ2) rfl (by kernel_rfl) (by kernel_rfl) (by kernel_rfl) (fun _ _ _ h => h) (Or.inl ⟨by rfl, ?yQ2⟩) hHeld ?rQ2
          case yQ2 => (intro W hSw; simp only [List.getElem_toArray, List.getElem_cons_succ, List.getElem_cons_zero]; go_simp; try (with_reducible rfl))
          simp only [List.getElem_toArray, List.getElem_cons_succ, List.getElem_cons_zero, Act.put, List.setIfInBounds_toArray, List.set_cons_zero, List.set_cons_succ]
          refine wpAnyH_take (i := 3) (v := ?vQ3) rfl (by kernel_rfl) (by kernel_rfl) (by kernel_rfl) (fun _ _ _ h => h) (Or.inl ⟨by rfl, ?yQ3⟩) hHeld ?rQ3
          case yQ3 => (intro W hSw; simp only [List.getElem_toArray, List.getElem_cons_succ, List.getElem_cons_zero]; go_simp; try (with_reducible rfl))
          simp only [List.getElem_toArray, List.getElem_cons_succ, List.getElem_cons_zero, Act.put, List.setIfInBounds_toArray, List.set_cons_zero, List.set_cons_succ]
          refine wpAnyH_take (i := 4) (v := ?vQ4) rfl (by kernel_rfl) (by kernel_rfl) (by kernel_rfl) (fun _ _ _ h => h) (Or.inl ⟨by rfl, ?yQ4⟩) hHeld ?rQ4
          case yQ4 => (intro W hSw; simp only [List.getElem_toArray, List.getElem_cons_succ, List.getElem_cons_zero]; go_simp; try (with_reducible rfl))
          simp only [List.getElem_toArray, List.getElem_cons_succ, List.getElem_cons_zero, Act.put, List.setIfInBounds_toArray, List.set_cons_zero, List.set_cons_succ]
          refine wpAnyH_take (i := 5) (v := ?vQ5) rfl (by kernel_rfl) (by kernel_rfl) (by kernel_rfl) (fun _ _ _ h => h) (Or.inl ⟨by rfl, ?yQ5⟩) hHeld ?rQ5
          case yQ5 => (intro W hSw; simp only [List.getElem_toArray, List.getElem_cons_succ, List.getElem_cons_zero]; go_simp; try (with_reducible rfl))
          simp only [List.getElem_toArray, List.getElem_cons_succ, List.getElem_cons_zero, Act.put, List.setIfInBounds_toArray, List.set_cons_zero, List.set_cons_succ]
          refine wpAnyH_take (i := 6) (v := ?vQ6) rfl (by kernel_rfl) (by kernel_rfl) (by kernel_rfl) (fun _ _ _ h => h) (Or.inl ⟨by rfl, ?yQ6⟩) hHeld ?rQ6
          case yQ6 => (intro W hSw; simp only [List.getElem_toArray, List.getElem_cons_succ, List.getElem_cons_zero]; go_simp; try (with_reducible rfl))
          simp only [List.getElem_toArray, List.getElem_cons_succ, List.getElem_cons_zero, Act.put, List.setIfInBounds_toArray, List.set_cons_zero, List.set_cons_succ]
          refine wpAnyH_take (i := 7) (v := ?vQ7) rfl (by kernel_rfl) (by kernel_rfl) (by kernel_rfl) (fun _ _ _ h => h) (Or.inl ⟨by rfl, ?yQ7⟩) hHeld ?rQ7
          case yQ7 => (intro W hSw; simp only [List.getElem_toArray, List.getElem_cons_succ, List.getElem_cons_zero]; go_simp; try (with_reducible rfl))
          simp only [List.getElem_toArray, List.getElem_cons_succ, List.getElem_cons_zero, Act.put, List.setIfInBounds_toArray, List.set_cons_zero, List.set_cons_succ]
          refine wpAnyH_take (i := 8) (v := ?vQ8) rfl (by kernel_rfl) (by kernel_rfl) (by kernel_rfl) (fun _ _ _ h => h) (Or.inl ⟨by rfl, ?yQ8⟩) hHeld ?rQ8
          case yQ8 => (intro W hSw; simp only [List.getElem_toArray, List.getElem_cons_succ, List.getElem_cons_zero]; go_simp; try (with_reducible rfl))
          simp only [List.getElem_toArray, List.getElem_cons_succ, List.getElem_cons_zero, Act.put, List.setIfInBounds_toArray, List.set_cons_zero, List.set_cons_succ]
          refine wpAnyH_take (i := 9) (v := ?vQ9) rfl (by kernel_rfl) (by kernel_rfl) (by kernel_rfl) (fun _ _ _ h => h) (Or.inl ⟨by rfl, ?yQ9⟩) hHeld ?rQ9
          case yQ9 => (intro W hSw; simp only [List.getElem_toArray, List.getElem_cons_succ, List.getElem_cons_zero]; go_simp; try (with_reducible rfl))
          simp only [List.getElem_toArray, List.getElem_cons_succ, List.getElem_cons_zero, Act.put, List.setIfInBounds_toArray, List.set_cons_zero, List.set_cons_succ]
          refine wpAnyH_take (i := 10) (v := ?vQ10) rfl (by kernel_rfl) (by kernel_rfl) (by kernel_rfl) (fun _ _ _ h => h) (Or.inl ⟨by rfl, ?yQ10⟩) hHeld ?rQ10
          case yQ10 => (intro W hSw; simp only [List.getElem_toArray, List.getElem_cons_succ, List.getElem_cons_zero]; go_simp; try (with_reducible rfl))
          simp only [List.getElem_toArray, List.getElem_cons_succ, List.getElem_cons_zero, Act.put, List.setIfInBounds_toArray, List.set_cons_zero, List.set_cons_succ]
          refine wpAnyH_ready (rs := [11]) (by kernel_rfl) (by simp) (AllReadyH.cons rfl (fun K hK => ?_) AllReadyH.nil)
          simp only [List.getElem_toArray, List.getElem_cons_succ, List.getElem_cons_zero]
          go_simp
          obtain ⟨W2, hW2⟩ : ∃ v, v = (wr.alloc (.cells #[.int .i64 (l : Int), .int .i64 r1, .int .i64 r2, .int .i64 r3, .int .i64 r4, .slice (some ⟨g, 0, none⟩) n n] 81)).drew := ⟨_, rfl⟩
          rw [← hW2]
          have BW2 := Lib.hid (show Below w.heap.size w W2 by rw [hW2]; exact (YB.out.alloc YB.out.size _).drew)
          have TW2 := Lib.hid (show W2.ownsRow w.heap.size 81 6 u3 i (T.flatMap (Tn.cells σ)) by rw [hW2]; exact (YT.out.alloc _).drew)
          have NW := Lib.hid (show ∀ j u, ((#[.int .i64 (l : Int), .int .i64 r1, .int .i64 r2, .int .i64 r3, .int .i64 r4, .slice (some ⟨g, 0, none⟩) n n] : Array Value).toList)[j]? = some u → W2.cell? ((⟨wr.heap.size, 0, none⟩ : Addr).add j) = some u from fun j u hj => by
            rw [hW2]
            match j, hj with
            | 0, hj => simp at hj; subst hj; simp [Addr.add, go_sem]
            | 1, hj => simp at hj; subst hj; simp [Addr.add, go_sem]
            | 2, hj => simp at hj; subst hj; simp [Addr.add, go_sem]
            | 3, hj => simp at hj; subst hj; simp [Addr.add, go_sem]
            | 4, hj => simp at hj; subst hj; simp [Addr.add, go_sem]
            | 5, hj => simp at hj; subst hj; simp [Addr.add, go_sem]
            | j + 6, hj => simp at hj)
          have ONE := Lib.hid (show ∀ u ∈ ((#[.int .i64 (l : Int), .int .i64 r1, .int .i64 r2, .int .i64 r3, .int .i64 r4, .slice (some ⟨g, 0, none⟩) n n] : Array Value).toList), u.oneCell' = true from fun u hu => by
            simp at hu
            rcases hu with rfl | rfl | rfl | rfl | rfl | rfl <;> rfl)
          have HW2 := Lib.hid hW2
          clear hW2
          refine hK.out _ _ (by exact HS.out _ BW2.out) (fun hHeld1 => ?_)
          clear hK K hHeld
          have hHeld := hHeld1; clear hHeld1
          try simp only [List.getElem_toArray, List.getElem_cons_succ, List.getElem_cons_zero, Act.put, List.setIfInBounds_toArray, List.set_cons_zero, List.set_cons_succ]
          refine wpAnyH_ready (rs := [12]) (by kernel_rfl) (by simp) (AllReadyH.cons rfl (fun K hK => ?_) AllReadyH.nil)
          simp only [List.getElem_toArray, List.getElem_cons_succ, List.getElem_cons_zero]
          refine wp_append_lies W2 (.tmp 63) (.tmp 74) 56 rfl w.heap.size 81 i2 (.agg #[.int .i64 0, .int .i64 0, .int .i64 0, .int .i64 0, .int .i64 0, .slice none 0 0]) 6 64 Tryz.underlying56 hi2 hy0 hy1 hy2 rfl (by decide) u3 i (T.flatMap (Tn.cells σ)) rfl TW2.out ⟨wr.heap.size, 0, none⟩ 1 1 (#[.int .i64 (l : Int), .int .i64 r1, .int .i64 r2, .int .i64 r3, .int .i64 r4, .slice (some ⟨g, 0, none⟩) n n] : Array Value).toList rfl rfl NW.out ONE.out (by decide) (by unfold maxLen; omega) (by omega) BW2.out.size W2.heap.size rfl ?_
          intro gn capn WP hown hgrow hat hglt
          have FIN := Lib.hid (show No w σ 0 hi h root (i + 1) (L ++ (nx l (kidsOf σ b) n).map fun k => (k, l - 1)) (T ++ [⟨b, l, L.length, g⟩]) (.slice (some ⟨gn, 0, none⟩) (i + 1) capn) u4 WP from by
            refine Ni.done X.out YY.out (by show n = (kidsOf σ b).length; rw [KD.out]; exact NN.out) HLI.out rfl ?_ (o := .cells #[.int .i64 (l : Int), .int .i64 r1, .int .i64 r2, .int .i64 r3, .int .i64 r4, .slice (some ⟨g, 0, none⟩) n n] 81) ?_
            · rw [CE.out]; exact hown
            · have := hgrow; rw [HW2.out] at this; exact ⟨this.os, this.tape, this.output, this.size, this.block⟩)
          have BWP := Lib.hid FIN.out.below
          clear hown hgrow hat hglt
          refine hK.out _ _ (by exact HS.out _ BWP.out) (fun hHeld1 => ?_)
          clear hK K hHeld
          have hHeld := hHeld1; clear hHeld1
          try simp only [List.getElem_toArray, List.getElem_cons_succ, List.getElem_cons_zero, Act.put, List.setIfInBounds_toArray, List.set_cons_zero, List.set_cons_succ]
          refine wpAnyH_take (i := 13) (v := ?vZ13) rfl (by kernel_rfl) (by kernel_rfl) (by kernel_rfl) (fun _ _ _ h => h) (Or.inl ⟨by rfl, ?yZ13⟩) hHeld ?rZ13
          case yZ13 => (intro W hSw; simp only [List.getElem_toArray, List.getElem_cons_succ, List.getElem_cons_zero]; go_simp; try (with_reducible rfl))
          simp only [List.getElem_toArray, List.getElem_cons_succ, List.getElem_cons_zero, Act.put, List.setIfInBounds_toArray, List.set_cons_zero, List.set_cons_succ]
          refine wpAnyH_done (by kernel_rfl) ?_ _
          go_wp2_with fail
          go_roundw
          case rel => exact ⟨i + 1, _, _, by go_num, FIN.out⟩
          case measure => simp [intOf]; omega
    · have hlz : ¬ (i : Int) < (m : Int) := by omega
      have FIN := Lib.hid (show NodesE σ hi h root w (.returned u3) wr from ⟨u3, _, L, T, rfl, by have := X.out; rw [show i = L.length by rw [← MM.out]; omega] at this; exact this⟩)
      clear hX X hm MM hlt
      go_wp2_with fail
      go_ret
      exact FIN.out
end Go.Proofs.YtobkgamcjfjghaaGreat.Rt
