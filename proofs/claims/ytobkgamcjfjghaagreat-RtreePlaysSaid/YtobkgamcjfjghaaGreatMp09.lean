/-
  Contract of package rsplit's Split: for fewer than twenty rectangles, two rows of places, so many at least in each, all places once. Memory that was there is left as it was.
-/
import Derived.Test.YtobkgamcjfjghaaGreatMp06
import Derived.Test.YtobkgamcjfjghaaGreatMp08
import Derived.Lib.AppendZerosOnto
import Derived.Lib.AppendZeros
import Derived.Test.YtobkgamcjfjghaaGreatMp07
/-
  Contract of slices.Clone at numbers: a copy in new memory. Memory that was there is left as it was.
-/
namespace Go.Proofs.YtobkgamcjfjghaaGreat.Rs
open Go.RowKit Go.Proofs.YtobkgamcjfjghaaGreat.Pt Go.Proofs.YtobkgamcjfjghaaGreat.Rc Go.Proofs.YtobkgamcjfjghaaGreat.Pts Go.Proofs.YtobkgamcjfjghaaGreat.So
set_option linter.unusedVariables false
set_option linter.unusedSimpArgs false
set_option maxHeartbeats 4000000
set_option maxRecDepth 100000
theorem run_emptyI (w : World) {i0 : TypeInfo} (hi : Tryz.prog.info? 3 = some i0) : (Instr.buildSlice 49 0 #[]).run Tryz.prog w = .ok (.slice (some ⟨w.heap.size, 0, none⟩) 0 0) (w.alloc (.cells #[] 3)) := by
  have hu := Tryz.underlying49
  simp [Instr.buildSlice, run_underlying hu, sizeOf, typeInfo, hi, newRow, Instr.fill]
  rw [show Array.range 0 = (#[] : Array Nat) by decide]
  simp
theorem wpList_emptyI {w : World} {ops : Array Oper} {rest : List Oper} {o : Oper} {a : Act} {Q : Exit → Act → World → Prop} (hgd : o.guard = none) (ho : o.op = .buildSlice 49 0 #[])
    (h : wpList Tryz.prog ops Q rest (a.put o.dst (.slice (some ⟨w.heap.size, 0, none⟩) 0 0)) (w.alloc (.cells #[] 3))) : wpList Tryz.prog ops Q (o :: rest) a w := by
  obtain ⟨i0, hi, -⟩ := info_parts infoI
  refine wpList_plain hgd fun K hK => ?_
  unfold Oper.wp execOp
  simp only [ho, Sem.run_bind, List.map_toArray, List.map_nil, run_emptyI w hi, Result.andThen_ok]
  exact hK _ _ h
theorem own_emptyI (w : World) : (w.alloc (.cells #[] 3)).ownsRow w.heap.size 3 1 (.slice (some ⟨w.heap.size, 0, none⟩) 0 0) 0 [] := ⟨rfl, Or.inr ⟨w.heap.size, 0, #[], rfl, Nat.le_refl _, heap_alloc_new w _, Nat.le_refl _, Nat.zero_le _, rfl, rfl⟩⟩
/-- Numbers that lie from there on. -/
def IsAt (W : World) (g o : Nat) (xs : List Int) : Prop := ∀ j x, xs[j]? = some x → W.cell? ⟨g, o + j, none⟩ = some (.int .i64 x)
theorem addr_at (g o j : Nat) : ((⟨g, o, none⟩ : Addr).add j) = ⟨g, o + j, none⟩ := by
  unfold Addr.add; split <;> simp_all
def CloE (w : World) (xs : List Int) (e : Ending) (w' : World) : Prop := ∃ g c, e = .returned (.slice (some ⟨g, 0, none⟩) xs.length c) ∧ w.heap.size ≤ g ∧ g < w'.heap.size ∧ HI w' g 0 xs.toArray ∧ Below w.heap.size w w'
theorem cloneI_any (g o c : Nat) (xs : List Int) (w : World) (hg : g < w.heap.size) (h : IsAt w g o xs) (h0 : 0 < xs.length) (hl : xs.length ≤ 1000) :
    Calls Tryz.prog 92 #[.slice (some ⟨g, o, none⟩) xs.length c] w (CloE w xs) := by
  have q22 : ∀ (w : World) (a : Option Addr) (n c n' c' : Nat), (binOp .eql 49 (.slice a n c) (.slice none n' c')).run Tryz.prog w = .ok (.bool a.isNone) w := fun w a n c n' c' => Lib.run_eql_slice_nil w _ _ a n c n' c' Tryz.underlying49
  obtain ⟨i0, hi, hz0, hz1, hz2⟩ := info_parts infoI
  have hN : ∀ j u, (xs.map (Value.int .i64))[j]? = some u → (w.alloc (.cells #[] 3)).cell? ((⟨g, o, none⟩ : Addr).add j) = some u := fun j u hu => by
    rw [List.getElem?_map] at hu
    cases hx : xs[j]? with
    | none => rw [hx] at hu; cases hu
    | some x =>
      rw [hx] at hu
      cases hu
      rw [addr_at, World.cell?_alloc_lt w _ _ hg]
      exact h j x hx
  have HN := Lib.hid hN
  clear hN h
  obtain ⟨n, hn⟩ : ∃ n, n = xs.length := ⟨_, rfl⟩
  have HX := Lib.hid hn
  have H0 := Lib.hid h0
  have hl1 : n ≤ 1000 := by omega
  rw [← hn]
  clear hl h0 hn
  go_enter Tryz.func92, Tryz.ntmps92
  go_wp2_with (first
    | (refine wpList_emptyI rfl rfl ?_)
    | (at_builtin; refine wpList_append_own _ rfl _ _ 49 rfl w.heap.size 3 i0 (.int .i64 0) 1 8 Tryz.underlying49 hi hz0 hz1 hz2 rfl (by decide) _ 0 [] rfl (own_emptyI w) ⟨g, o, none⟩ n c (xs.map (Value.int .i64)) rfl (by rw [List.length_map, ← HX.out]; omega) HN.out (ints_oneCell _ _) (by unfold maxLen; omega) (by omega) (by simp) ?_))
  intro v' w1 hrow hgr hat
  have hnp : 0 < n := by rw [HX.out]; exact H0.out
  obtain ⟨G, cap, rfl, hG1, hG2⟩ : ∃ G cap, v' = .slice (some ⟨G, 0, none⟩) n cap ∧ w.heap.size ≤ G ∧ G < w1.heap.size := by
    rcases hrow.2 with ⟨e, h0⟩ | ⟨G, cap, cur, e, hb, hh, _⟩
    · omega
    · exact ⟨G, cap, by first | exact e | rw [e, Nat.zero_add], hb, (Array.getElem?_eq_some_iff.1 hh).1⟩
  have HH : Hid (HI w1 G 0 xs.toArray) := Lib.hid fun j hj => by
    have hj' : j < xs.length := by simpa using hj
    refine ⟨?_, hrow.frozenAt (0 + j)⟩
    rw [Nat.zero_add, hrow.cellAt j (by rw [HX.out]; omega), List.getElem?_map, List.getElem?_eq_getElem hj', getElem!_pos _ j hj]
    simp
  have HB : Hid (Below w.heap.size w w1) := Lib.hid (((Below.refl w.heap.size w).alloc (Nat.le_refl _) _).grown hgr (by simp) (fun k hk => by simp [Value.ownBlock] at hk; omega))
  clear hrow hgr hat HN
  go_wp2_with fail
  go_ret
  exact ⟨G, cap, by rw [← HX.out]; rfl, hG1, hG2, HH.out, HB.out⟩
end Go.Proofs.YtobkgamcjfjghaaGreat.Rs
/-
  Contracts of slices.Grow of no cuts, and of slices.Concat of two lists of cuts. Memory that was there is left as it was.
-/
namespace Go.Proofs.YtobkgamcjfjghaaGreat.Rs
open Go.RowKit Go.Proofs.YtobkgamcjfjghaaGreat.Pt Go.Proofs.YtobkgamcjfjghaaGreat.Rc Go.Proofs.YtobkgamcjfjghaaGreat.Pts Go.Proofs.YtobkgamcjfjghaaGreat.So
set_option linter.unusedVariables false
set_option linter.unusedSimpArgs false
set_option maxHeartbeats 4000000
set_option maxRecDepth 100000
theorem grow_any (n : Nat) (w : World) (h0 : 0 < n) (hn : n ≤ 1000) :
    Calls Tryz.prog 108 #[.slice none 0 0, .int .i64 (n : Int)] w fun e w' => ∃ g c, e = .returned (.slice (some ⟨g, 0, none⟩) 0 c) ∧ w'.ownsRow w.heap.size 127 5 (.slice (some ⟨g, 0, none⟩) 0 c) 0 [] ∧ Below w.heap.size w w' := by
  obtain ⟨ic, ci, cz0, cz1, cz2⟩ := info_parts infoCut
  have hold : (Builtin.firstCells ic.size 0 (.slice none 0 0)).run Tryz.prog w.drew = .ok #[] w.drew := run_firstCells_none w.drew ic.size 0 0 0
  have hrz : ∀ ty, (Builtin.append_ #[124, 3] ty #[.slice none 0 0, .int .i64 (n : Int)]).run Tryz.prog w = .ok (.slice (some ⟨w.heap.size, 0, none⟩) n (grownCap w n 0 127)) (w.drew.alloc (.cells (Builtin.zeroCells (Value.cells (.agg #[.slice none 0 0, .int .i64 0, .int .i64 0, .int .i64 0, .int .u64 0])) n ++ Builtin.zeroCells (Value.cells (.agg #[.slice none 0 0, .int .i64 0, .int .i64 0, .int .i64 0, .int .u64 0])) (grownCap w n 0 127 - n)) 127)) := fun ty => by
    have h := Lib.run_append_grow_zeros w 124 3 ty 127 ic (.agg #[.slice none 0 0, .int .i64 0, .int .i64 0, .int .i64 0, .int .u64 0]) .i64 .i64 Tryz.underlying124 Tryz.underlying3 ci cz0 none 0 0 [] hold n h0 (by rw [cz1]; decide) (by omega) (by omega) (by rw [cz2]; omega) (by rw [Nat.zero_add]; exact growslice_fits (by omega) (by rw [cz2]; omega))
    simpa using h
  have hG1 : n ≤ grownCap w n 0 127 := grownCap_ge w _ _ _
  have hG2 : grownCap w n 0 127 ≤ maxLen := grownCap_le_maxLen w n 0 127 (by unfold maxLen; omega)
  obtain ⟨G, hG⟩ : ∃ G, G = grownCap w n 0 127 := ⟨_, rfl⟩
  rw [← hG] at hrz hG1 hG2
  have hG63 : G ≤ 9223372036854775807 := by unfold maxLen at hG2; omega
  obtain ⟨cur, hcur⟩ : ∃ cur, cur = Builtin.zeroCells (Value.cells (.agg #[.slice none 0 0, .int .i64 0, .int .i64 0, .int .i64 0, .int .u64 0])) n ++ Builtin.zeroCells (Value.cells (.agg #[.slice none 0 0, .int .i64 0, .int .i64 0, .int .i64 0, .int .u64 0])) (G - n) := ⟨_, rfl⟩
  rw [← hcur] at hrz
  have hsz : cur.size = G * 5 := by
    rw [hcur, Array.size_append, size_zeroCells, size_zeroCells]
    rw [show (Value.cells (.agg #[.slice none 0 0, .int .i64 0, .int .i64 0, .int .i64 0, .int .u64 0])).size = 5 from rfl]
    omega
  have HE := Lib.hid (show (w.drew.alloc (.cells cur 127)).ownsRow w.heap.size 127 5 (.slice (some ⟨w.heap.size, 0, none⟩) 0 G) 0 [] from
    ⟨rfl, Or.inr ⟨w.heap.size, G, cur, rfl, Nat.le_refl _, heap_alloc_new w.drew _, Nat.zero_le _, hG2, hsz, rfl⟩⟩)
  have HB := Lib.hid (show Below w.heap.size w (w.drew.alloc (.cells cur 127)) from ((Below.refl w.heap.size w).drew).alloc (Nat.le_refl _) _)
  have hnz : ¬ (n : Int) < 0 := by omega
  have hnz2 : (n : Int) > 0 := by omega
  have hnz3 : (0 : Int) < (n : Int) := by omega
  have hw : IntKind.i64.wrap (n : Int) = (n : Int) := IntWalk.i64_in _ (by omega)
  clear hold hcur hG hsz cz0 cz1 cz2 hG2
  go_enter Tryz.func108, Tryz.ntmps108
  go_wp2_with (at_builtin; refine Lib.wpList_append_run _ rfl _ _ _ _ rfl _ _ rfl rfl _ _ (hrz _) ?_)
  all_goals (go_ret; exact ⟨_, G, rfl, HE.out, HB.out⟩)
/-- A list of cuts that lies in memory. -/
def CL (W : World) (b : Nat) (a : Option Addr) (c : Nat) (xs : List Cut) : Prop := 0 < xs.length ∧ xs.length ≤ 20 ∧ ∃ g, a = some ⟨g, 0, none⟩ ∧ b ≤ g ∧ g < W.heap.size ∧ ∀ j u, (xs.flatMap cutL)[j]? = some u → W.cell? ⟨g, j, none⟩ = some u
theorem flat_idx (xs : List Cut) {j : Nat} {u : Value} (h : (xs.flatMap cutL)[j]? = some u) : ∃ (k t : Nat) (hk : k < xs.length), t < 5 ∧ j = k * 5 + t ∧ (cutL xs[k])[t]? = some u := by
  have hj : j < xs.length * 5 := by
    rw [← flat_len]
    exact (List.getElem?_eq_some_iff.1 h).1
  refine ⟨j / 5, j % 5, by omega, by omega, by omega, ?_⟩
  rw [← flat_at xs (j / 5) (j % 5) (by omega) (by omega), show j / 5 * 5 + j % 5 = j by omega]
  exact h
theorem CsAt.news {W : World} {z g : Nat} {xs : List Cut} (h : CsAt W z (some ⟨g, 0, none⟩) xs) (h0 : 0 < xs.length) : g < z ∧ ∀ j u, (xs.flatMap cutL)[j]? = some u → W.cell? ((⟨g, 0, none⟩ : Addr).add j) = some u := by
  obtain ⟨g', o, e, hg, hc⟩ := h.2 h0
  simp at e
  obtain ⟨rfl, rfl⟩ := e
  refine ⟨hg, fun j u hu => ?_⟩
  obtain ⟨k, t, hk, ht, rfl, hu2⟩ := flat_idx xs hu
  rw [addr_at, Nat.zero_add]
  obtain ⟨c0, c1, c2, c3, c4⟩ := hc k hk
  simp only [Nat.zero_add] at c0 c1 c2 c3 c4
  match t, ht with
  | 0, _ => rw [← hu2]; exact c0
  | 1, _ => rw [← hu2]; exact c1
  | 2, _ => rw [← hu2]; exact c2
  | 3, _ => rw [← hu2]; exact c3
  | 4, _ => rw [← hu2]; exact c4
def LnR (n1 n2 : Nat) (v3 v11 : Value) (w : World) (wr : World) : Prop := wr = w ∧ ((v11 = .int .i64 0 ∧ v3 = .int .i64 0) ∨ (v11 = .int .i64 1 ∧ v3 = .int .i64 (n1 : Int)) ∨ (v11 = .int .i64 2 ∧ v3 = .int .i64 ((n1 + n2 : Nat) : Int)))
def CtR (w : World) (xs ys : List Cut) (v6 v27 : Value) (wr : World) : Prop := ∃ j : Nat, v27 = .int .i64 (j : Int) ∧ j ≤ 2 ∧ Below w.heap.size w wr ∧
  (∃ zs : List Cut, zs = (if j = 0 then [] else if j = 1 then xs else xs ++ ys) ∧ wr.ownsRow w.heap.size 127 5 v6 zs.length (zs.flatMap cutL))
def CtE (w : World) (xs : List Cut) (e : Ending) (w' : World) : Prop := ∃ g c, e = .returned (.slice (some ⟨g, 0, none⟩) xs.length c) ∧ CsAt w' w'.heap.size (some ⟨g, 0, none⟩) xs ∧ Below w.heap.size w w'
theorem concat_any (b g1 c1 g2 c2 : Nat) (xs ys : List Cut) (w : World) (hb0 : w.cell? ⟨b, 0, none⟩ = some (.slice (some ⟨g1, 0, none⟩) xs.length c1)) (hb1 : w.cell? ⟨b, 1, none⟩ = some (.slice (some ⟨g2, 0, none⟩) ys.length c2))
    (hx : CsAt w w.heap.size (some ⟨g1, 0, none⟩) xs) (hy : CsAt w w.heap.size (some ⟨g2, 0, none⟩) ys) (hx0 : 0 < xs.length) (hy0 : 0 < ys.length) (hxn : xs.length ≤ 20) (hyn : ys.length ≤ 20) :
    Calls Tryz.prog 83 #[.slice (some ⟨b, 0, none⟩) 2 2] w (CtE w (xs ++ ys)) := by
  have NX := Lib.hid (hx.news hx0)
  have NY := Lib.hid (hy.news hy0)
  have HB0 := Lib.hid hb0
  have HB1 := Lib.hid hb1
  obtain ⟨n1, e1⟩ : ∃ n, n = xs.length := ⟨_, rfl⟩
  obtain ⟨n2, e2⟩ : ∃ n, n = ys.length := ⟨_, rfl⟩
  have E1 := Lib.hid e1
  have E2 := Lib.hid e2
  rw [← e1] at hb0 HB0 hx0 hxn
  rw [← e2] at hb1 HB1 hy0 hyn
  have CG := Lib.hid (fun W => grow_any (n1 + n2) W (by omega) (by omega))
  obtain ⟨ic, ci, cz0, cz1, cz2⟩ := info_parts infoCut
  have w1 : IntKind.i64.wrap (0 + (n1 : Int)) = (n1 : Int) := by rw [Int.zero_add]; exact IntWalk.i64_in _ (by omega)
  have w2 : IntKind.i64.wrap ((n1 : Int) + (n2 : Int)) = ((n1 + n2 : Nat) : Int) := by rw [Int.natCast_add]; exact IntWalk.i64_in _ (by omega)
  have X1 := Lib.hid w1
  have X2 := Lib.hid w2
  clear hx hy e1 e2 w1 w2
  go_enter Tryz.func83, Tryz.ntmps83
  go_wp2_with fail
  go_loopw [3, 11] (fun v3 v11 wr => LnR n1 n2 v3 v11 w wr) (fun _ v11 _ => 2 - nOf v11)
  case atStart => exact ⟨rfl, Or.inl ⟨rfl, rfl⟩⟩
  case round =>
    obtain ⟨ew, hrel⟩ := hrel
    have ew2 := ew.symm
    subst ew2
    clear ew
    obtain ⟨rfl, rfl⟩ | ⟨rfl, rfl⟩ | ⟨rfl, rfl⟩ := hrel
    · have w1 := X1.out
      have z1 : ¬ (n1 : Int) < 0 := by omega
      go_wp2_with fail
      go_roundw
      case rel => exact ⟨rfl, Or.inr (Or.inl ⟨by go_num, by go_num⟩)⟩
      case measure => simp [nOf]
    · have w2 := X2.out
      have z1 : ¬ ((n1 + n2 : Nat) : Int) < 0 := by omega
      go_wp2_with fail
      go_roundw
      case rel => exact ⟨rfl, Or.inr (Or.inr ⟨by go_num, by go_num⟩)⟩
      case measure => simp [nOf]
    · go_wp2_with fail
      refine Calls.mono (CG.out _) ?_
      rintro e w3 ⟨g, c, rfl, hown, hb⟩
      have OW := Lib.hid hown
      have BW := Lib.hid hb
      clear hown hb
      go_wp2_with fail
      go_loopw [6, 27] (fun v6 v27 wr => CtR w xs ys v6 v27 wr) (fun _ v27 _ => 2 - nOf v27)
      case atStart => exact ⟨0, rfl, by omega, BW.out, [], rfl, OW.out⟩
      case round =>
        clear OW BW
        obtain ⟨j, rfl, hj, hB, zs, hz, hown⟩ := hrel
        have BZ := Lib.hid hB
        have OZ := Lib.hid hown
        have HZ := Lib.hid hz
        clear hB hown hz
        have b0 := cell_later BZ.out HB0.out
        have b1 := cell_later BZ.out HB1.out
        rcases (show j = 0 ∨ j = 1 ∨ j = 2 by omega) with rfl | rfl | rfl
        · have NW : Hid (∀ j u, (xs.flatMap cutL)[j]? = some u → wr.cell? ((⟨g1, 0, none⟩ : Addr).add j) = some u) := Lib.hid fun j u hu => by
            have := NX.out.2 j u hu
            rw [addr_at] at this ⊢
            exact cell_later BZ.out this
          have hz2 : [] = zs := HZ.out.symm
          subst hz2
          go_wp2_with (first | (at_builtin; refine wpList_append_own_at _ rfl _ _ 124 rfl w.heap.size 127 ic (.agg #[.slice none 0 0, .int .i64 0, .int .i64 0, .int .i64 0, .int .u64 0]) 5 56 Tryz.underlying124 ci cz0 cz1 cz2 rfl (by decide) _ _ _ rfl OZ.out ⟨g1, 0, none⟩ n1 _ (xs.flatMap cutL) rfl (by rw [flat_len, E1.out]) NW.out (flat_one xs) (by unfold maxLen; simp; omega) (by simp; omega) BZ.out.size ?_))
          intro v' w' hown hgrow _ _
          have BN := Lib.hid (BZ.out.grown hgrow BZ.out.size (fun k hk => (World.ownsRow.lt OZ.out k hk).1))
          have ON := Lib.hid hown
          clear hown hgrow
          go_wp2_with fail
          go_roundw
          case rel =>
            refine ⟨1, by go_num, by omega, BN.out, xs, rfl, ?_⟩
            have := ON.out
            rw [E1.out] at this; simpa using this
          case measure => simp [nOf]
        · have NW : Hid (∀ j u, (ys.flatMap cutL)[j]? = some u → wr.cell? ((⟨g2, 0, none⟩ : Addr).add j) = some u) := Lib.hid fun j u hu => by
            have := NY.out.2 j u hu
            rw [addr_at] at this ⊢
            exact cell_later BZ.out this
          have hz2 : xs = zs := HZ.out.symm
          subst hz2
          go_wp2_with (first | (at_builtin; refine wpList_append_own_at _ rfl _ _ 124 rfl w.heap.size 127 ic (.agg #[.slice none 0 0, .int .i64 0, .int .i64 0, .int .i64 0, .int .u64 0]) 5 56 Tryz.underlying124 ci cz0 cz1 cz2 rfl (by decide) _ _ _ rfl OZ.out ⟨g2, 0, none⟩ n2 _ (ys.flatMap cutL) rfl (by rw [flat_len, E2.out]) NW.out (flat_one ys) (by unfold maxLen; rw [← E1.out]; omega) (by rw [← E1.out]; omega) BZ.out.size ?_))
          intro v' w' hown hgrow _ _
          have BN := Lib.hid (BZ.out.grown hgrow BZ.out.size (fun k hk => (World.ownsRow.lt OZ.out k hk).1))
          have ON := Lib.hid hown
          clear hown hgrow
          go_wp2_with fail
          go_roundw
          case rel =>
            refine ⟨2, by go_num, by omega, BN.out, xs ++ ys, rfl, ?_⟩
            have := ON.out
            rw [List.length_append, List.flatMap_append, ← E2.out]; exact this
          case measure => simp [nOf]
        · have hz2 : xs ++ ys = zs := HZ.out.symm
          subst hz2
          obtain ⟨g, cc, hu, hge, hcs⟩ := cs_of OZ.out (by rw [List.length_append, ← E1.out]; omega) (by rw [List.length_append, ← E1.out, ← E2.out]; omega)
          subst hu
          have HCS := Lib.hid hcs
          clear hcs
          go_wp2_with fail
          go_ret
          exact ⟨g, cc, rfl, HCS.out, BZ.out⟩
end Go.Proofs.YtobkgamcjfjghaaGreat.Rs
/-
  Contract of package rsplit's margins: some number. Memory that was there is left as it was.
-/
namespace Go.Proofs.YtobkgamcjfjghaaGreat.Rs
open Go.RowKit Go.Proofs.YtobkgamcjfjghaaGreat.Pt Go.Proofs.YtobkgamcjfjghaaGreat.Rc Go.Proofs.YtobkgamcjfjghaaGreat.Pts
set_option linter.unusedVariables false
set_option linter.unusedSimpArgs false
set_option maxHeartbeats 4000000
set_option maxRecDepth 100000
def MaR (w : World) (n : Nat) (v3 v8 : Value) (wr : World) : Prop := ∃ (k : Nat) (t : Int), v3 = .int .i64 t ∧ v8 = .int .i64 (k : Int) ∧ k ≤ n ∧ Hid (Below w.heap.size w wr)
theorem margins_any (a : Option Addr) (c : Nat) (l : List Cut) (w : World) (h : CsAt w w.heap.size a l) : Calls Tryz.prog 89 #[.slice a l.length c] w fun e w' => ∃ t : Int, e = .returned (.int .i64 t) ∧ Below w.heap.size w w' := by
  have h1000 := h.1
  have H := Lib.hid h
  obtain ⟨n, hn⟩ : ∃ n, n = l.length := ⟨_, rfl⟩
  have HN := Lib.hid hn
  rw [← hn] at h1000 ⊢
  clear h hn
  go_enter Tryz.func89, Tryz.ntmps89
  go_wp2_with fail
  go_loopw [3, 5, 8] (fun v3 v5 v8 wr => MaR w n v3 v8 wr) (fun _ _ v8 _ => n - (intOf v8).toNat)
  case atStart => exact ⟨0, 0, rfl, rfl, Nat.zero_le _, Lib.hid (Below.refl _ _)⟩
  case round =>
    obtain ⟨k, t, rfl, rfl, hk, HB⟩ := hrel
    by_cases hlt : k < n
    · have hlz : (k : Int) < (n : Int) := by omega
      obtain ⟨g, o, rfl, hg, ⟨zs, zn, zc, zf, zm, zo, zr⟩, -, c0, c1, c2, c3, c4⟩ := (H.out.later HB.out).at (k := k) (by rw [← HN.out]; exact hlt)
      dsimp only at c0 c1 c2 c3 c4
      have B1 := Lib.hid (HB.out.alloc HB.out.size (.cells #[.slice zs zn zc, .int .i64 zf, .int .i64 zm, .int .i64 zo, .int .u64 zr] 127))
      go_wp2_with fail
      go_roundw
      case rel => exact ⟨k + 1, _, rfl, by go_num, by omega, B1⟩
      case measure => simp [intOf]; omega
    · have hlz : ¬ (k : Int) < (n : Int) := by omega
      go_wp2_with fail
      go_ret
      exact ⟨⟨t, rfl⟩, HB.out⟩
end Go.Proofs.YtobkgamcjfjghaaGreat.Rs
namespace Go.Proofs.YtobkgamcjfjghaaGreat.Rs
open Go.RowKit Go.Proofs.YtobkgamcjfjghaaGreat.Pt Go.Proofs.YtobkgamcjfjghaaGreat.Rc Go.Proofs.YtobkgamcjfjghaaGreat.Pts Go.Proofs.YtobkgamcjfjghaaGreat.So
set_option linter.unusedVariables false
set_option linter.unusedSimpArgs false
set_option maxHeartbeats 4000000
set_option maxRecDepth 100000
theorem CsAt.wide {W : World} {z z' : Nat} {a : Option Addr} {l : List Cut} (h : CsAt W z a l) (hz : z ≤ z') : CsAt W z' a l := by
  refine ⟨h.1, fun h0 => ?_⟩
  obtain ⟨g, o, e, hg, hc⟩ := h.2 h0
  exact ⟨g, o, e, by omega, hc⟩
theorem is_take {W : World} {g : Nat} {d : Array Int} (h : HI W g 0 d) (f : Nat) : IsAt W g 0 (d.toList.take f) := by
  intro j x hx
  rw [List.getElem?_take] at hx
  split at hx
  · obtain ⟨hj, hv⟩ := List.getElem?_eq_some_iff.1 hx
    rw [Array.length_toList] at hj
    rw [(h j hj).1, getElem!_pos d j hj, ← hv]
    simp
  · cases hx
theorem is_drop {W : World} {g : Nat} {d : Array Int} (h : HI W g 0 d) (f : Nat) : IsAt W g f (d.toList.drop f) := by
  intro j x hx
  rw [List.getElem?_drop] at hx
  obtain ⟨hj, hv⟩ := List.getElem?_eq_some_iff.1 hx
  rw [Array.length_toList] at hj
  have := (h (f + j) hj).1
  rw [Nat.zero_add] at this
  rw [this, getElem!_pos d (f + j) hj, ← hv]
  simp
/-- Two rows of places, all of them once. -/
def SpE (w : World) (n mi : Nat) (e : Ending) (w' : World) : Prop := ∃ (ga ca gb cb : Nat) (xs ys : List Int) (d : Array Int), e = .returned (.tuple #[.slice (some ⟨ga, 0, none⟩) xs.length ca, .slice (some ⟨gb, 0, none⟩) ys.length cb, .nilIface]) ∧
  w.heap.size ≤ ga ∧ ga < w'.heap.size ∧ w.heap.size ≤ gb ∧ gb < w'.heap.size ∧ HI w' ga 0 xs.toArray ∧ HI w' gb 0 ys.toArray ∧ mi ≤ xs.length ∧ mi ≤ ys.length ∧ d.size = n ∧ Sort.PermIn 0 n (idA n) d ∧ xs ++ ys = d.toList ∧ Below w.heap.size w w'
theorem split_any (a : Option Addr) (c mi : Nat) (l : List R4) (w : World) (hl : RsAt w w.heap.size a l) (hn : l.length < 20) (h1 : 1 ≤ mi) (hm : 2 * mi ≤ l.length) :
    Calls Tryz.prog 65 #[.slice a l.length c, .int .i64 (mi : Int)] w (SpE w l.length mi) := by
  have CM := Lib.hid (rsmay_any a c l w hl)
  have CX := Lib.hid (fun W (h : Below w.heap.size w W) => cutsBy_any _ at_four.1 a c mi l W ((hl.later h).wide h.size) hn h1 hm)
  have CHX := Lib.hid (fun W (h : Below w.heap.size w W) => cutsBy_any _ at_four.2.1 a c mi l W ((hl.later h).wide h.size) hn h1 hm)
  have CY := Lib.hid (fun W (h : Below w.heap.size w W) => cutsBy_any _ at_four.2.2.1 a c mi l W ((hl.later h).wide h.size) hn h1 hm)
  have CHY := Lib.hid (fun W (h : Below w.heap.size w W) => cutsBy_any _ at_four.2.2.2 a c mi l W ((hl.later h).wide h.size) hn h1 hm)
  obtain ⟨n, hnn⟩ : ∃ n, n = l.length := ⟨_, rfl⟩
  rw [← hnn] at CM CX CHX CY CHY hn hm ⊢
  clear hl hnn
  obtain ⟨K, hK⟩ : ∃ K, K = n / 2 := ⟨_, rfl⟩
  have hq : Int.tdiv (n : Int) 2 = (K : Int) := by rw [hK]; rfl
  have hq2 : IntKind.i64.wrap (K : Int) = (K : Int) := IntWalk.i64_in _ (by omega)
  have m0 : ¬ (mi : Int) < 1 := by omega
  have m1 : ¬ (K : Int) < (mi : Int) := by omega
  clear hK
  go_enter Tryz.func65, Tryz.ntmps65
  go_wp2_with fail
  refine Calls.mono CM.out ?_
  rintro e w1 ⟨rfl, hb1⟩
  have B1 := Lib.hid hb1
  clear hb1
  go_wp2_with fail
  clear hq hq2
  refine Calls.mono (CX.out _ B1.out) ?_
  rintro e w2 ⟨gp, cp, lp, rfl, hg, h0p, h20p, hcc, hcs, hgc, hb1⟩
  have B2 := Lib.hid (B1.out.trans (hb1.mono B1.out.size))
  have Dp := Lib.hid (And.intro hcs hgc)
  clear hb1 hg hcc hcs hgc
  go_wp2_with fail
  refine Calls.mono (CHX.out _ B2.out) ?_
  rintro e w3 ⟨gq, cq, lq, rfl, hg, h0q, h20q, hcc, hcs, hgc, hb1⟩
  have B3 := Lib.hid (B2.out.trans (hb1.mono B2.out.size))
  have Dq := Lib.hid (And.intro hcs hgc)
  have Dp := Lib.hid (And.intro ((Dp.out.1.later hb1).wide hb1.size) (fun x hx => ((Dp.out.2 x hx).later hb1).wide hb1.size))
  clear hb1 hg hcc hcs hgc
  have hb1 : Below w3.heap.size w3 (w3.alloc (.cells #[.slice (some ⟨gp, 0, none⟩) lp.length cp, .slice (some ⟨gq, 0, none⟩) lq.length cq] 124)) := (Below.refl _ _).alloc (Nat.le_refl _) _
  have Ep := Lib.hid ((Dp.out.1.later hb1).wide hb1.size)
  have Eq := Lib.hid ((Dq.out.1.later hb1).wide hb1.size)
  have BA := Lib.hid (B3.out.trans (hb1.mono B3.out.size))
  have HGu := Lib.hid (show ∀ x ∈ lp ++ lq, Gc (w3.alloc (.cells #[.slice (some ⟨gp, 0, none⟩) lp.length cp, .slice (some ⟨gq, 0, none⟩) lq.length cq] 124)) (w3.alloc (.cells #[.slice (some ⟨gp, 0, none⟩) lp.length cp, .slice (some ⟨gq, 0, none⟩) lq.length cq] 124)).heap.size n mi x from fun x hx => by
    rcases List.mem_append.1 hx with hx | hx
    · exact ((Dp.out.2 x hx).later hb1).wide hb1.size
    · exact ((Dq.out.2 x hx).later hb1).wide hb1.size)
  clear hb1
  have CC := Lib.hid (concat_any w3.heap.size gp cp gq cq lp lq (w3.alloc (.cells #[.slice (some ⟨gp, 0, none⟩) lp.length cp, .slice (some ⟨gq, 0, none⟩) lq.length cq] 124)) (by simp) (by simp) Ep.out Eq.out h0p h0q h20p h20q)
  clear Ep Eq Dp Dq
  go_wp2_with fail
  refine Calls.mono CC.out ?_
  rintro e w4 ⟨gu, cu, rfl, hcs, hb1⟩
  obtain ⟨lu, hlu⟩ : ∃ l, l = lp ++ lq := ⟨_, rfl⟩
  rw [← hlu] at hcs HGu ⊢
  have LPu : 0 < lu.length := by rw [hlu, List.length_append]; omega
  clear hlu
  have B4 := Lib.hid (BA.out.trans (hb1.mono BA.out.size))
  have DCu := Lib.hid hcs
  have HGu := Lib.hid (fun x hx => ((HGu.out x hx).later hb1).wide hb1.size)
  clear hb1 hcs CC BA
  go_wp2_with fail
  refine Calls.mono (CY.out _ B4.out) ?_
  rintro e w5 ⟨gr, cr, lr, rfl, hg, h0r, h20r, hcc, hcs, hgc, hb1⟩
  have B5 := Lib.hid (B4.out.trans (hb1.mono B4.out.size))
  have Dr := Lib.hid (And.intro hcs hgc)
  have DCu := Lib.hid ((DCu.out.later hb1).wide hb1.size)
  have HGu := Lib.hid (fun x hx => ((HGu.out x hx).later hb1).wide hb1.size)
  clear hb1 hg hcc hcs hgc
  go_wp2_with fail
  refine Calls.mono (CHY.out _ B5.out) ?_
  rintro e w6 ⟨gs, cs, ls, rfl, hg, h0s, h20s, hcc, hcs, hgc, hb1⟩
  have B6 := Lib.hid (B5.out.trans (hb1.mono B5.out.size))
  have Ds := Lib.hid (And.intro hcs hgc)
  have Dr := Lib.hid (And.intro ((Dr.out.1.later hb1).wide hb1.size) (fun x hx => ((Dr.out.2 x hx).later hb1).wide hb1.size))
  have DCu := Lib.hid ((DCu.out.later hb1).wide hb1.size)
  have HGu := Lib.hid (fun x hx => ((HGu.out x hx).later hb1).wide hb1.size)
  clear hb1 hg hcc hcs hgc
  have hb1 : Below w6.heap.size w6 (w6.alloc (.cells #[.slice (some ⟨gr, 0, none⟩) lr.length cr, .slice (some ⟨gs, 0, none⟩) ls.length cs] 124)) := (Below.refl _ _).alloc (Nat.le_refl _) _
  have Er := Lib.hid ((Dr.out.1.later hb1).wide hb1.size)
  have Es := Lib.hid ((Ds.out.1.later hb1).wide hb1.size)
  have BA := Lib.hid (B6.out.trans (hb1.mono B6.out.size))
  have HGv := Lib.hid (show ∀ x ∈ lr ++ ls, Gc (w6.alloc (.cells #[.slice (some ⟨gr, 0, none⟩) lr.length cr, .slice (some ⟨gs, 0, none⟩) ls.length cs] 124)) (w6.alloc (.cells #[.slice (some ⟨gr, 0, none⟩) lr.length cr, .slice (some ⟨gs, 0, none⟩) ls.length cs] 124)).heap.size n mi x from fun x hx => by
    rcases List.mem_append.1 hx with hx | hx
    · exact ((Dr.out.2 x hx).later hb1).wide hb1.size
    · exact ((Ds.out.2 x hx).later hb1).wide hb1.size)
  have DCu := Lib.hid ((DCu.out.later hb1).wide hb1.size)
  have HGu := Lib.hid (fun x hx => ((HGu.out x hx).later hb1).wide hb1.size)
  clear hb1
  have CC := Lib.hid (concat_any w6.heap.size gr cr gs cs lr ls (w6.alloc (.cells #[.slice (some ⟨gr, 0, none⟩) lr.length cr, .slice (some ⟨gs, 0, none⟩) ls.length cs] 124)) (by simp) (by simp) Er.out Es.out h0r h0s h20r h20s)
  clear Er Es Dr Ds
  go_wp2_with fail
  refine Calls.mono CC.out ?_
  rintro e w7 ⟨gv, cv, rfl, hcs, hb1⟩
  obtain ⟨lv, hlv⟩ : ∃ l, l = lr ++ ls := ⟨_, rfl⟩
  rw [← hlv] at hcs HGv ⊢
  have LPv : 0 < lv.length := by rw [hlv, List.length_append]; omega
  clear hlv
  have B7 := Lib.hid (BA.out.trans (hb1.mono BA.out.size))
  have DCv := Lib.hid hcs
  have HGv := Lib.hid (fun x hx => ((HGv.out x hx).later hb1).wide hb1.size)
  have DCu := Lib.hid ((DCu.out.later hb1).wide hb1.size)
  have HGu := Lib.hid (fun x hx => ((HGu.out x hx).later hb1).wide hb1.size)
  clear hb1 hcs CC BA
  have CV := Lib.hid (margins_any (some ⟨gv, 0, none⟩) cv lv _ DCv.out)
  go_wp2_with fail
  refine Calls.mono CV.out ?_
  rintro e w8 ⟨t1, rfl, hb1⟩
  have B8 := Lib.hid (B7.out.trans (hb1.mono B7.out.size))
  have DCu := Lib.hid ((DCu.out.later hb1).wide hb1.size)
  have DCv := Lib.hid ((DCv.out.later hb1).wide hb1.size)
  have HGu := Lib.hid (fun x hx => ((HGu.out x hx).later hb1).wide hb1.size)
  have HGv := Lib.hid (fun x hx => ((HGv.out x hx).later hb1).wide hb1.size)
  clear hb1 CV
  have CU := Lib.hid (margins_any (some ⟨gu, 0, none⟩) cu lu _ DCu.out)
  go_wp2_with fail
  refine Calls.mono CU.out ?_
  rintro e w9 ⟨t2, rfl, hb1⟩
  have B9 := Lib.hid (B8.out.trans (hb1.mono B8.out.size))
  have DCu := Lib.hid ((DCu.out.later hb1).wide hb1.size)
  have DCv := Lib.hid ((DCv.out.later hb1).wide hb1.size)
  have HGu := Lib.hid (fun x hx => ((HGu.out x hx).later hb1).wide hb1.size)
  have HGv := Lib.hid (fun x hx => ((HGv.out x hx).later hb1).wide hb1.size)
  clear hb1 CU
  by_cases ht : t1 < t2
  · have CM2 := Lib.hid (min_any (some ⟨gv, 0, none⟩) cv lv _ DCv.out LPv)
    go_wp2_with fail
    refine Calls.mono CM2.out ?_
    rintro e wm ⟨x, hx, rfl, hb1⟩
    have BM := Lib.hid (B9.out.trans (hb1.mono B9.out.size))
    obtain ⟨g7, d, f, e1, e2, e3, e4, e5, e6, e7, e8, e9, e10⟩ := ((HGv.out x hx).later hb1).wide hb1.size
    obtain ⟨xs_, xn, xc, xf, xm, xo, xr⟩ := x
    dsimp only at e1 e3 e4 e8
    have e3 := e3.symm
    have e4 := e4.symm
    subst e1 e3 e4 e8
    unfold Cut.v cutV
    dsimp only
    have P7 := Lib.hid (And.intro e2 (And.intro e5 (And.intro e6 (And.intro e7 (And.intro e9 e10)))))
    have hfn : f < n := by omega
    have k1 : f ≤ n := by omega
    obtain ⟨f2, k3⟩ : ∃ k, n - f = k := ⟨_, rfl⟩
    have kz0 : (0 : Int) ≤ (f : Int) := by omega
    have kz1 : (f : Int) ≤ (n : Int) := by omega
    have k5 : ¬ n = f := by omega
    have k6 : ¬ f = n := by omega
    have LD := Lib.hid (show d.toList.length = n by rw [Array.length_toList]; exact e6)
    have TL := Lib.hid (show (d.toList.take f).length = f by rw [List.length_take, LD.out]; omega)
    have DL := Lib.hid (show (d.toList.drop f).length = f2 by rw [List.length_drop, LD.out]; omega)
    have K1 : Hid (∀ W, wm.heap.size ≤ W.heap.size → Below wm.heap.size wm W → Calls Tryz.prog 92 #[.slice (some ⟨g7, 0, none⟩) f n] W (CloE W (d.toList.take f))) := Lib.hid fun W hz hb => by
      have := cloneI_any g7 0 n (d.toList.take f) W (Nat.lt_of_lt_of_le P7.out.1 hz) (is_take (P7.out.2.1.bel hb P7.out.1) f) (by rw [List.length_take, LD.out]; omega) (by rw [List.length_take, LD.out]; omega)
      rw [List.length_take, LD.out, Nat.min_eq_left k1] at this
      exact this
    have K2 : Hid (∀ W, wm.heap.size ≤ W.heap.size → Below wm.heap.size wm W → Calls Tryz.prog 92 #[.slice (some ⟨g7, f, none⟩) f2 f2] W (CloE W (d.toList.drop f))) := Lib.hid fun W hz hb => by
      have := cloneI_any g7 f f2 (d.toList.drop f) W (Nat.lt_of_lt_of_le P7.out.1 hz) (is_drop (P7.out.2.1.bel hb P7.out.1) f) (by rw [List.length_drop, LD.out]; omega) (by rw [List.length_drop, LD.out]; omega)
      rw [List.length_drop, LD.out, k3] at this
      exact this
    have HS0 : Hid ((fun W => W.cell? ⟨wm.heap.size, 0, none⟩ = some (.slice (some ⟨g7, 0, none⟩) n n) ∧ W.cell? ⟨wm.heap.size, 1, none⟩ = some (.int .i64 (f : Int)) ∧ wm.heap.size ≤ W.heap.size ∧ Below wm.heap.size wm W) (wm.alloc (.cells #[.slice (some ⟨g7, 0, none⟩) n n, .int .i64 (f : Int), .int .i64 xm, .int .i64 xo, .int .u64 xr] 127)).drew) := Lib.hid ⟨by simp, by simp, by simp, ((Below.refl _ _).alloc (Nat.le_refl _) _).drew⟩
    clear hx hb1 e2 e5 e6 e7 CM2
    go_wp2_with fail
    refine wp_region_held_drew (S := (fun W => W.cell? ⟨wm.heap.size, 0, none⟩ = some (.slice (some ⟨g7, 0, none⟩) n n) ∧ W.cell? ⟨wm.heap.size, 1, none⟩ = some (.int .i64 (f : Int)) ∧ wm.heap.size ≤ W.heap.size ∧ Below wm.heap.size wm W)) (by kernel_rfl) (by exact HS0.out) (fun hHeld => ?_)
    refine wpAnyH_take (i := 0) (v := ?vv0) rfl (by kernel_rfl) (by kernel_rfl) (by kernel_rfl) (fun _ _ _ h => h) (Or.inl ⟨by rfl, ?yv0⟩) hHeld ?rv0
    case yv0 => (intro W hSw; simp only [List.getElem_toArray, List.getElem_cons_zero]; go_simp; try (with_reducible rfl))
    simp only [List.getElem_toArray, List.getElem_cons_zero, Act.put, List.setIfInBounds_toArray, List.set_cons_zero, List.set_cons_succ]
    refine wpAnyH_take (i := 1) (v := ?vv1) rfl (by kernel_rfl) (by kernel_rfl) (by kernel_rfl) (fun _ _ _ h => h) (Or.inl ⟨by rfl, ?yv1⟩) hHeld ?rv1
    case yv1 => (intro W hSw; simp only [List.getElem_toArray, List.getElem_cons_succ, List.getElem_cons_zero]; go_simp; try (with_reducible rfl))
    simp only [List.getElem_toArray, List.getElem_cons_succ, List.getElem_cons_zero, Act.put, List.setIfInBounds_toArray, List.set_cons_zero, List.set_cons_succ]
    refine wpAnyH_take (i := 2) (v := ?vv2) rfl (by kernel_rfl) (by kernel_rfl) (by kernel_rfl) (fun _ _ _ h => h) (Or.inl ⟨by rfl, ?yv2⟩) hHeld ?rv2
    case yv2 => (intro W hSw; simp only [List.getElem_toArray, List.getElem_cons_succ, List.getElem_cons_zero]; go_simp; try (with_reducible rfl))
    simp only [List.getElem_toArray, List.getElem_cons_succ, List.getElem_cons_zero, Act.put, List.setIfInBounds_toArray, List.set_cons_zero, List.set_cons_succ]
    refine wpAnyH_take (i := 3) (v := ?vv3) rfl (by kernel_rfl) (by kernel_rfl) (by kernel_rfl) (fun _ _ _ h => h) (Or.inl ⟨by rfl, ?yv3⟩) hHeld ?rv3
    case yv3 => (intro W hSw; simp only [List.getElem_toArray, List.getElem_cons_succ, List.getElem_cons_zero]; go_simp; try (with_reducible rfl))
    simp only [List.getElem_toArray, List.getElem_cons_succ, List.getElem_cons_zero, Act.put, List.setIfInBounds_toArray, List.set_cons_zero, List.set_cons_succ]
    refine wpAnyH_take (i := 4) (v := ?vv4) rfl (by kernel_rfl) (by kernel_rfl) (by kernel_rfl) (fun _ _ _ h => h) (Or.inl ⟨by rfl, ?yv4⟩) hHeld ?rv4
    case yv4 => (intro W hSw; simp only [List.getElem_toArray, List.getElem_cons_succ, List.getElem_cons_zero]; go_simp; try (with_reducible rfl))
    simp only [List.getElem_toArray, List.getElem_cons_succ, List.getElem_cons_zero, Act.put, List.setIfInBounds_toArray, List.set_cons_zero, List.set_cons_succ]
    refine wpAnyH_take (i := 6) (v := ?vv6) rfl (by kernel_rfl) (by kernel_rfl) (by kernel_rfl) (fun _ _ _ h => h) (Or.inl ⟨by rfl, ?yv6⟩) hHeld ?rv6
    case yv6 => (intro W hSw; simp only [List.getElem_toArray, List.getElem_cons_succ, List.getElem_cons_zero]; go_simp; try (with_reducible rfl))
    simp only [List.getElem_toArray, List.getElem_cons_succ, List.getElem_cons_zero, Act.put, List.setIfInBounds_toArray, List.set_cons_zero, List.set_cons_succ]
    refine wpAnyH_take (i := 7) (v := ?vv7) rfl (by kernel_rfl) (by kernel_rfl) (by kernel_rfl) (fun _ _ _ h => h) (Or.inl ⟨by rfl, ?yv7⟩) hHeld ?rv7
    case yv7 => (intro W hSw; simp only [List.getElem_toArray, List.getElem_cons_succ, List.getElem_cons_zero]; go_simp; try (with_reducible rfl))
    simp only [List.getElem_toArray, List.getElem_cons_succ, List.getElem_cons_zero, Act.put, List.setIfInBounds_toArray, List.set_cons_zero, List.set_cons_succ]
    refine wpAnyH_take (i := 8) (v := ?vv8) rfl (by kernel_rfl) (by kernel_rfl) (by kernel_rfl) (fun _ _ _ h => h) (Or.inl ⟨by rfl, ?yv8⟩) hHeld ?rv8
    case yv8 => (intro W hSw; simp only [List.getElem_toArray, List.getElem_cons_succ, List.getElem_cons_zero]; go_simp; try (with_reducible rfl))
    simp only [List.getElem_toArray, List.getElem_cons_succ, List.getElem_cons_zero, Act.put, List.setIfInBounds_toArray, List.set_cons_zero, List.set_cons_succ]
    refine wpAnyH_take (i := 9) (v := ?vv9) rfl (by kernel_rfl) (by kernel_rfl) (by kernel_rfl) (fun _ _ _ h => h) (Or.inl ⟨by rfl, ?yv9⟩) hHeld ?rv9
    case yv9 => (intro W hSw; simp only [List.getElem_toArray, List.getElem_cons_succ, List.getElem_cons_zero]; go_simp; try (with_reducible rfl))
    simp only [List.getElem_toArray, List.getElem_cons_succ, List.getElem_cons_zero, Act.put, List.setIfInBounds_toArray, List.set_cons_zero, List.set_cons_succ]
    refine wpAnyH_take (i := 10) (v := ?vv10) rfl (by kernel_rfl) (by kernel_rfl) (by kernel_rfl) (fun _ _ _ h => h) (Or.inl ⟨by rfl, ?yv10⟩) hHeld ?rv10
    case yv10 => (intro W hSw; simp only [List.getElem_toArray, List.getElem_cons_succ, List.getElem_cons_zero]; go_simp; try (with_reducible rfl))
    simp only [List.getElem_toArray, List.getElem_cons_succ, List.getElem_cons_zero, Act.put, List.setIfInBounds_toArray, List.set_cons_zero, List.set_cons_succ]
    refine wpAnyH_ready (rs := [5]) (by kernel_rfl) (by simp) (AllReadyH.cons rfl (fun K hK => ?_) AllReadyH.nil)
    simp only [List.getElem_toArray, List.getElem_cons_succ, List.getElem_cons_zero]
    go_simp
    (go_at_call 92; refine Calls.mono (K1.out _ hHeld.2.2.1 hHeld.2.2.2) ?_; rintro e w9 ⟨ga, ca, rfl, hga, hga2, hHa, hb1⟩; rw [TL.out]; have P1 := Lib.hid (And.intro (show wm.heap.size ≤ ga from Nat.le_trans hHeld.2.2.1 hga) (And.intro hga2 hHa)); clear hga hga2 hHa)
    try go_wp2_with fail
    refine hK.out _ _ ((Kp.two hb1 (Kp.ends hb1)) hHeld) (fun hHeld1 => ?_)
    clear hK K hHeld
    have hHeld := hHeld1; clear hHeld1
    try simp only [List.getElem_toArray, List.getElem_cons_succ, List.getElem_cons_zero, Act.put, List.setIfInBounds_toArray, List.set_cons_zero, List.set_cons_succ]
    refine wpAnyH_ready (rs := [11]) (by kernel_rfl) (by simp) (AllReadyH.cons rfl (fun K hK => ?_) AllReadyH.nil)
    simp only [List.getElem_toArray, List.getElem_cons_succ, List.getElem_cons_zero]
    go_simp
    (go_at_call 92; refine Calls.mono (K2.out _ hHeld.2.2.1 hHeld.2.2.2) ?_; rintro e w10 ⟨gb, cb, rfl, hgb, hgb2, hHb, hb1⟩; rw [DL.out]; have P2 := Lib.hid (And.intro (show wm.heap.size ≤ gb from Nat.le_trans hHeld.2.2.1 hgb) (And.intro hgb2 hHb)); have P1 := Lib.hid (And.intro P1.out.1 (And.intro (Nat.lt_of_lt_of_le P1.out.2.1 hb1.size) (P1.out.2.2.bel hb1 P1.out.2.1))); clear hgb hgb2 hHb)
    try go_wp2_with fail
    refine hK.out _ _ ((Kp.two hb1 (Kp.ends hb1)) hHeld) (fun hHeld1 => ?_)
    clear hK K hHeld
    have hHeld := hHeld1; clear hHeld1
    try simp only [List.getElem_toArray, List.getElem_cons_succ, List.getElem_cons_zero, Act.put, List.setIfInBounds_toArray, List.set_cons_zero, List.set_cons_succ]
    refine wpAnyH_take (i := 12) (v := ?vv12) rfl (by kernel_rfl) (by kernel_rfl) (by kernel_rfl) (fun _ _ _ h => h) (Or.inl ⟨by rfl, ?yv12⟩) hHeld ?rv12
    case yv12 => (intro W hSw; simp only [List.getElem_toArray, List.getElem_cons_succ, List.getElem_cons_zero]; go_simp; try (with_reducible rfl))
    simp only [List.getElem_toArray, List.getElem_cons_succ, List.getElem_cons_zero, Act.put, List.setIfInBounds_toArray, List.set_cons_zero, List.set_cons_succ]
    refine wpAnyH_take (i := 13) (v := ?vv13) rfl (by kernel_rfl) (by kernel_rfl) (by kernel_rfl) (fun _ _ _ h => h) (Or.inl ⟨by rfl, ?yv13⟩) hHeld ?rv13
    case yv13 => (intro W hSw; simp only [List.getElem_toArray, List.getElem_cons_succ, List.getElem_cons_zero]; go_simp; try (with_reducible rfl))
    simp only [List.getElem_toArray, List.getElem_cons_succ, List.getElem_cons_zero, Act.put, List.setIfInBounds_toArray, List.set_cons_zero, List.set_cons_succ]
    refine wpAnyH_take (i := 14) (v := ?vv14) rfl (by kernel_rfl) (by kernel_rfl) (by kernel_rfl) (fun _ _ _ h => h) (Or.inl ⟨by rfl, ?yv14⟩) hHeld ?rv14
    case yv14 => (intro W hSw; simp only [List.getElem_toArray, List.getElem_cons_succ, List.getElem_cons_zero]; go_simp; try (with_reducible rfl))
    simp only [List.getElem_toArray, List.getElem_cons_succ, List.getElem_cons_zero, Act.put, List.setIfInBounds_toArray, List.set_cons_zero, List.set_cons_succ]
    refine wpAnyH_done (by kernel_rfl) ?_ _
    go_wp2_with fail
    refine bodyPost_ret (v := .tuple #[.slice (some ⟨ga, 0, none⟩) f ca, .slice (some ⟨gb, 0, none⟩) f2 cb, .nilIface]) (by simp [results, Tryz.results65, go_sem, *]) rfl ?_
    have hla : (d.toList.take f).length = f := by rw [List.length_take, LD.out]; omega
    have hlb : (d.toList.drop f).length = f2 := by rw [List.length_drop, LD.out]; omega
    exact ⟨ga, ca, gb, cb, d.toList.take f, d.toList.drop f, d, by rw [hla, hlb], Nat.le_trans BM.out.size P1.out.1, P1.out.2.1, Nat.le_trans BM.out.size P2.out.1, P2.out.2.1, P1.out.2.2, P2.out.2.2, by rw [hla]; exact P7.out.2.2.2.2.1, by rw [hlb]; have := P7.out.2.2.2.2.2; omega, P7.out.2.2.1, P7.out.2.2.2.1, List.take_append_drop f d.toList, BM.out.trans (hHeld.2.2.2.mono BM.out.size)⟩
  · have CM2 := Lib.hid (min_any (some ⟨gu, 0, none⟩) cu lu _ DCu.out LPu)
    go_wp2_with fail
    refine Calls.mono CM2.out ?_
    rintro e wm ⟨x, hx, rfl, hb1⟩
    have BM := Lib.hid (B9.out.trans (hb1.mono B9.out.size))
    obtain ⟨g7, d, f, e1, e2, e3, e4, e5, e6, e7, e8, e9, e10⟩ := ((HGu.out x hx).later hb1).wide hb1.size
    obtain ⟨xs_, xn, xc, xf, xm, xo, xr⟩ := x
    dsimp only at e1 e3 e4 e8
    have e3 := e3.symm
    have e4 := e4.symm
    subst e1 e3 e4 e8
    unfold Cut.v cutV
    dsimp only
    have P7 := Lib.hid (And.intro e2 (And.intro e5 (And.intro e6 (And.intro e7 (And.intro e9 e10)))))
    have hfn : f < n := by omega
    have k1 : f ≤ n := by omega
    obtain ⟨f2, k3⟩ : ∃ k, n - f = k := ⟨_, rfl⟩
    have kz0 : (0 : Int) ≤ (f : Int) := by omega
    have kz1 : (f : Int) ≤ (n : Int) := by omega
    have k5 : ¬ n = f := by omega
    have k6 : ¬ f = n := by omega
    have LD := Lib.hid (show d.toList.length = n by rw [Array.length_toList]; exact e6)
    have TL := Lib.hid (show (d.toList.take f).length = f by rw [List.length_take, LD.out]; omega)
    have DL := Lib.hid (show (d.toList.drop f).length = f2 by rw [List.length_drop, LD.out]; omega)
    have K1 : Hid (∀ W, wm.heap.size ≤ W.heap.size → Below wm.heap.size wm W → Calls Tryz.prog 92 #[.slice (some ⟨g7, 0, none⟩) f n] W (CloE W (d.toList.take f))) := Lib.hid fun W hz hb => by
      have := cloneI_any g7 0 n (d.toList.take f) W (Nat.lt_of_lt_of_le P7.out.1 hz) (is_take (P7.out.2.1.bel hb P7.out.1) f) (by rw [List.length_take, LD.out]; omega) (by rw [List.length_take, LD.out]; omega)
      rw [List.length_take, LD.out, Nat.min_eq_left k1] at this
      exact this
    have K2 : Hid (∀ W, wm.heap.size ≤ W.heap.size → Below wm.heap.size wm W → Calls Tryz.prog 92 #[.slice (some ⟨g7, f, none⟩) f2 f2] W (CloE W (d.toList.drop f))) := Lib.hid fun W hz hb => by
      have := cloneI_any g7 f f2 (d.toList.drop f) W (Nat.lt_of_lt_of_le P7.out.1 hz) (is_drop (P7.out.2.1.bel hb P7.out.1) f) (by rw [List.length_drop, LD.out]; omega) (by rw [List.length_drop, LD.out]; omega)
      rw [List.length_drop, LD.out, k3] at this
      exact this
    have HS0 : Hid ((fun W => W.cell? ⟨wm.heap.size, 0, none⟩ = some (.slice (some ⟨g7, 0, none⟩) n n) ∧ W.cell? ⟨wm.heap.size, 1, none⟩ = some (.int .i64 (f : Int)) ∧ wm.heap.size ≤ W.heap.size ∧ Below wm.heap.size wm W) (wm.alloc (.cells #[.slice (some ⟨g7, 0, none⟩) n n, .int .i64 (f : Int), .int .i64 xm, .int .i64 xo, .int .u64 xr] 127)).drew) := Lib.hid ⟨by simp, by simp, by simp, ((Below.refl _ _).alloc (Nat.le_refl _) _).drew⟩
    clear hx hb1 e2 e5 e6 e7 CM2
    go_wp2_with fail
    refine wp_region_held_drew (S := (fun W => W.cell? ⟨wm.heap.size, 0, none⟩ = some (.slice (some ⟨g7, 0, none⟩) n n) ∧ W.cell? ⟨wm.heap.size, 1, none⟩ = some (.int .i64 (f : Int)) ∧ wm.heap.size ≤ W.heap.size ∧ Below wm.heap.size wm W)) (by kernel_rfl) (by exact HS0.out) (fun hHeld => ?_)
    refine wpAnyH_take (i := 0) (v := ?vu0) rfl (by kernel_rfl) (by kernel_rfl) (by kernel_rfl) (fun _ _ _ h => h) (Or.inl ⟨by rfl, ?yu0⟩) hHeld ?ru0
    case yu0 => (intro W hSw; simp only [List.getElem_toArray, List.getElem_cons_zero]; go_simp; try (with_reducible rfl))
    simp only [List.getElem_toArray, List.getElem_cons_zero, Act.put, List.setIfInBounds_toArray, List.set_cons_zero, List.set_cons_succ]
    refine wpAnyH_take (i := 1) (v := ?vu1) rfl (by kernel_rfl) (by kernel_rfl) (by kernel_rfl) (fun _ _ _ h => h) (Or.inl ⟨by rfl, ?yu1⟩) hHeld ?ru1
    case yu1 => (intro W hSw; simp only [List.getElem_toArray, List.getElem_cons_succ, List.getElem_cons_zero]; go_simp; try (with_reducible rfl))
    simp only [List.getElem_toArray, List.getElem_cons_succ, List.getElem_cons_zero, Act.put, List.setIfInBounds_toArray, List.set_cons_zero, List.set_cons_succ]
    refine wpAnyH_take (i := 2) (v := ?vu2) rfl (by kernel_rfl) (by kernel_rfl) (by kernel_rfl) (fun _ _ _ h => h) (Or.inl ⟨by rfl, ?yu2⟩) hHeld ?ru2
    case yu2 => (intro W hSw; simp only [List.getElem_toArray, List.getElem_cons_succ, List.getElem_cons_zero]; go_simp; try (with_reducible rfl))
    simp only [List.getElem_toArray, List.getElem_cons_succ, List.getElem_cons_zero, Act.put, List.setIfInBounds_toArray, List.set_cons_zero, List.set_cons_succ]
    refine wpAnyH_take (i := 3) (v := ?vu3) rfl (by kernel_rfl) (by kernel_rfl) (by kernel_rfl) (fun _ _ _ h => h) (Or.inl ⟨by rfl, ?yu3⟩) hHeld ?ru3
    case yu3 => (intro W hSw; simp only [List.getElem_toArray, List.getElem_cons_succ, List.getElem_cons_zero]; go_simp; try (with_reducible rfl))
    simp only [List.getElem_toArray, List.getElem_cons_succ, List.getElem_cons_zero, Act.put, List.setIfInBounds_toArray, List.set_cons_zero, List.set_cons_succ]
    refine wpAnyH_take (i := 4) (v := ?vu4) rfl (by kernel_rfl) (by kernel_rfl) (by kernel_rfl) (fun _ _ _ h => h) (Or.inl ⟨by rfl, ?yu4⟩) hHeld ?ru4
    case yu4 => (intro W hSw; simp only [List.getElem_toArray, List.getElem_cons_succ, List.getElem_cons_zero]; go_simp; try (with_reducible rfl))
    simp only [List.getElem_toArray, List.getElem_cons_succ, List.getElem_cons_zero, Act.put, List.setIfInBounds_toArray, List.set_cons_zero, List.set_cons_succ]
    refine wpAnyH_take (i := 6) (v := ?vu6) rfl (by kernel_rfl) (by kernel_rfl) (by kernel_rfl) (fun _ _ _ h => h) (Or.inl ⟨by rfl, ?yu6⟩) hHeld ?ru6
    case yu6 => (intro W hSw; simp only [List.getElem_toArray, List.getElem_cons_succ, List.getElem_cons_zero]; go_simp; try (with_reducible rfl))
    simp only [List.getElem_toArray, List.getElem_cons_succ, List.getElem_cons_zero, Act.put, List.setIfInBounds_toArray, List.set_cons_zero, List.set_cons_succ]
    refine wpAnyH_take (i := 7) (v := ?vu7) rfl (by kernel_rfl) (by kernel_rfl) (by kernel_rfl) (fun _ _ _ h => h) (Or.inl ⟨by rfl, ?yu7⟩) hHeld ?ru7
    case yu7 => (intro W hSw; simp only [List.getElem_toArray, List.getElem_cons_succ, List.getElem_cons_zero]; go_simp; try (with_reducible rfl))
    simp only [List.getElem_toArray, List.getElem_cons_succ, List.getElem_cons_zero, Act.put, List.setIfInBounds_toArray, List.set_cons_zero, List.set_cons_succ]
    refine wpAnyH_take (i := 8) (v := ?vu8) rfl (by kernel_rfl) (by kernel_rfl) (by kernel_rfl) (fun _ _ _ h => h) (Or.inl ⟨by rfl, ?yu8⟩) hHeld ?ru8
    case yu8 => (intro W hSw; simp only [List.getElem_toArray, List.getElem_cons_succ, List.getElem_cons_zero]; go_simp; try (with_reducible rfl))
    simp only [List.getElem_toArray, List.getElem_cons_succ, List.getElem_cons_zero, Act.put, List.setIfInBounds_toArray, List.set_cons_zero, List.set_cons_succ]
    refine wpAnyH_take (i := 9) (v := ?vu9) rfl (by kernel_rfl) (by kernel_rfl) (by kernel_rfl) (fun _ _ _ h => h) (Or.inl ⟨by rfl, ?yu9⟩) hHeld ?ru9
    case yu9 => (intro W hSw; simp only [List.getElem_toArray, List.getElem_cons_succ, List.getElem_cons_zero]; go_simp; try (with_reducible rfl))
    simp only [List.getElem_toArray, List.getElem_cons_succ, List.getElem_cons_zero, Act.put, List.setIfInBounds_toArray, List.set_cons_zero, List.set_cons_succ]
    refine wpAnyH_take (i := 10) (v := ?vu10) rfl (by kernel_rfl) (by kernel_rfl) (by kernel_rfl) (fun _ _ _ h => h) (Or.inl ⟨by rfl, ?yu10⟩) hHeld ?ru10
    case yu10 => (intro W hSw; simp only [List.getElem_toArray, List.getElem_cons_succ, List.getElem_cons_zero]; go_simp; try (with_reducible rfl))
    simp only [List.getElem_toArray, List.getElem_cons_succ, List.getElem_cons_zero, Act.put, List.setIfInBounds_toArray, List.set_cons_zero, List.set_cons_succ]
    refine wpAnyH_ready (rs := [5]) (by kernel_rfl) (by simp) (AllReadyH.cons rfl (fun K hK => ?_) AllReadyH.nil)
    simp only [List.getElem_toArray, List.getElem_cons_succ, List.getElem_cons_zero]
    go_simp
    (go_at_call 92; refine Calls.mono (K1.out _ hHeld.2.2.1 hHeld.2.2.2) ?_; rintro e w9 ⟨ga, ca, rfl, hga, hga2, hHa, hb1⟩; rw [TL.out]; have P1 := Lib.hid (And.intro (show wm.heap.size ≤ ga from Nat.le_trans hHeld.2.2.1 hga) (And.intro hga2 hHa)); clear hga hga2 hHa)
    try go_wp2_with fail
    refine hK.out _ _ ((Kp.two hb1 (Kp.ends hb1)) hHeld) (fun hHeld1 => ?_)
    clear hK K hHeld
    have hHeld := hHeld1; clear hHeld1
    try simp only [List.getElem_toArray, List.getElem_cons_succ, List.getElem_cons_zero, Act.put, List.setIfInBounds_toArray, List.set_cons_zero, List.set_cons_succ]
    refine wpAnyH_ready (rs := [11]) (by kernel_rfl) (by simp) (AllReadyH.cons rfl (fun K hK => ?_) AllReadyH.nil)
    simp only [List.getElem_toArray, List.getElem_cons_succ, List.getElem_cons_zero]
    go_simp
    (go_at_call 92; refine Calls.mono (K2.out _ hHeld.2.2.1 hHeld.2.2.2) ?_; rintro e w10 ⟨gb, cb, rfl, hgb, hgb2, hHb, hb1⟩; rw [DL.out]; have P2 := Lib.hid (And.intro (show wm.heap.size ≤ gb from Nat.le_trans hHeld.2.2.1 hgb) (And.intro hgb2 hHb)); have P1 := Lib.hid (And.intro P1.out.1 (And.intro (Nat.lt_of_lt_of_le P1.out.2.1 hb1.size) (P1.out.2.2.bel hb1 P1.out.2.1))); clear hgb hgb2 hHb)
    try go_wp2_with fail
    refine hK.out _ _ ((Kp.two hb1 (Kp.ends hb1)) hHeld) (fun hHeld1 => ?_)
    clear hK K hHeld
    have hHeld := hHeld1; clear hHeld1
    try simp only [List.getElem_toArray, List.getElem_cons_succ, List.getElem_cons_zero, Act.put, List.setIfInBounds_toArray, List.set_cons_zero, List.set_cons_succ]
    refine wpAnyH_take (i := 12) (v := ?vu12) rfl (by kernel_rfl) (by kernel_rfl) (by kernel_rfl) (fun _ _ _ h => h) (Or.inl ⟨by rfl, ?yu12⟩) hHeld ?ru12
    case yu12 => (intro W hSw; simp only [List.getElem_toArray, List.getElem_cons_succ, List.getElem_cons_zero]; go_simp; try (with_reducible rfl))
    simp only [List.getElem_toArray, List.getElem_cons_succ, List.getElem_cons_zero, Act.put, List.setIfInBounds_toArray, List.set_cons_zero, List.set_cons_succ]
    refine wpAnyH_take (i := 13) (v := ?vu13) rfl (by kernel_rfl) (by kernel_rfl) (by kernel_rfl) (fun _ _ _ h => h) (Or.inl ⟨by rfl, ?yu13⟩) hHeld ?ru13
    case yu13 => (intro W hSw; simp only [List.getElem_toArray, List.getElem_cons_succ, List.getElem_cons_zero]; go_simp; try (with_reducible rfl))
    simp only [List.getElem_toArray, List.getElem_cons_succ, List.getElem_cons_zero, Act.put, List.setIfInBounds_toArray, List.set_cons_zero, List.set_cons_succ]
    refine wpAnyH_take (i := 14) (v := ?vu14) rfl (by kernel_rfl) (by kernel_rfl) (by kernel_rfl) (fun _ _ _ h => h) (Or.inl ⟨by rfl, ?yu14⟩) hHeld ?ru14
    case yu14 => (intro W hSw; simp only [List.getElem_toArray, List.getElem_cons_succ, List.getElem_cons_zero]; go_simp; try (with_reducible rfl))
    simp only [List.getElem_toArray, List.getElem_cons_succ, List.getElem_cons_zero, Act.put, List.setIfInBounds_toArray, List.set_cons_zero, List.set_cons_succ]
    refine wpAnyH_done (by kernel_rfl) ?_ _
    go_wp2_with fail
    refine bodyPost_ret (v := .tuple #[.slice (some ⟨ga, 0, none⟩) f ca, .slice (some ⟨gb, 0, none⟩) f2 cb, .nilIface]) (by simp [results, Tryz.results65, go_sem, *]) rfl ?_
    have hla : (d.toList.take f).length = f := by rw [List.length_take, LD.out]; omega
    have hlb : (d.toList.drop f).length = f2 := by rw [List.length_drop, LD.out]; omega
    exact ⟨ga, ca, gb, cb, d.toList.take f, d.toList.drop f, d, by rw [hla, hlb], Nat.le_trans BM.out.size P1.out.1, P1.out.2.1, Nat.le_trans BM.out.size P2.out.1, P2.out.2.1, P1.out.2.2, P2.out.2.2, by rw [hla]; exact P7.out.2.2.2.2.1, by rw [hlb]; have := P7.out.2.2.2.2.2; omega, P7.out.2.2.1, P7.out.2.2.2.1, List.take_append_drop f d.toList, BM.out.trans (hHeld.2.2.2.mono BM.out.size)⟩
end Go.Proofs.YtobkgamcjfjghaaGreat.Rs
