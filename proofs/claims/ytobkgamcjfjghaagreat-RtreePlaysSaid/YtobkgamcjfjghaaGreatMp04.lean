/-
  Contracts of lose of an R*-tree's part, of its closure, and of slices.Index and slices.Contains at a row of parts.
-/
import Derived.Test.YtobkgamcjfjghaaGreatMp03
import Derived.Lib.SliceRun
import Derived.IntWalk
import Derived.LaidEqlPtr
/-
  Contract of pick of an R*-tree's part: its kids at some places, in a new row. Memory that was there is left as it was.
-/
namespace Go.Proofs.YtobkgamcjfjghaaGreat.Rt
open Go.RowKit Go.Proofs.YtobkgamcjfjghaaGreat.Pt Go.Proofs.YtobkgamcjfjghaaGreat.Rc Go.Proofs.YtobkgamcjfjghaaGreat.Rs Go.Proofs.YtobkgamcjfjghaaGreat.Pts
set_option linter.unusedVariables false
set_option linter.unusedSimpArgs false
set_option maxRecDepth 100000

theorem A.infoPp : (Tryz.prog.info? 61).map (fun i => (i.zero, i.size, i.bytes)) = some (some (.pointer none), 1, 8) := by kernel_rfl
/-- Places, from an offset on. -/
def Pls (W : World) (z g o : Nat) (ps : List Nat) : Prop := g < z ∧ ∀ (i : Nat) (h : i < ps.length), W.cell? ⟨g, o + i, none⟩ = some (.int .i64 (ps[i] : Nat))
theorem Pls.later {W V : World} {z g o : Nat} {ps : List Nat} (h : Pls W z g o ps) (hb : Below z W V) : Pls V z g o ps := ⟨h.1, fun i hi => (hb.cell (p := ⟨g, o + i, none⟩) h.1).trans (h.2 i hi)⟩
def pickL (ks ps : List Nat) : List Nat := ps.map fun p => ks.getD p 0
theorem take_set {α : Type} {xs ys : List α} {j : Nat} {u : α} (hl : j < xs.length) (h : xs.take j = ys.take j) (hy : ys[j]? = some u) : (xs.set j u).take (j + 1) = ys.take (j + 1) := by
  apply List.ext_getElem?
  intro i
  rw [List.getElem?_take, List.getElem?_take]
  by_cases hi : i < j + 1
  · rw [if_pos hi, if_pos hi]
    by_cases e : i = j
    · subst e
      rw [List.getElem?_set_self hl, hy]
    · rw [List.getElem?_set_ne (by omega)]
      have := congrArg (fun l => l[i]?) h
      simp only [List.getElem?_take] at this
      rw [if_pos (by omega), if_pos (by omega)] at this
      exact this
  · rw [if_neg hi, if_neg hi]
def PkR (w : World) (g m : Nat) (ys : List Value) (i : Value) (wr : World) : Prop :=
  ∃ (j : Nat) (xs : List Value), j ≤ m ∧ i = .int .i64 j ∧ wr.ownsRow 0 61 1 (.slice (some ⟨g, 0, none⟩) m m) m xs ∧ xs.take j = ys.take j ∧ Below w.heap.size w wr

set_option maxHeartbeats 2000000 in
theorem pick_any (n : Nat) (d : Pd) (σ : St) (V : Nat → Value) (g' o c' : Nat) (ps : List Nat) (w : World) (hM : Mem w σ V) (hd : σ n = some d) (hps : Pls w w.heap.size g' o ps) (h0 : 0 < ps.length) (hk : ∀ p ∈ ps, p < d.kids.length) (hn : ps.length ≤ 20) :
    Calls Tryz.prog 67 #[ptr n, .slice (some ⟨g', o, none⟩) ps.length c'] w fun e w' => ∃ g, e = .returned (.slice (some ⟨g, 0, none⟩) ps.length ps.length) ∧ w.heap.size ≤ g ∧ w'.ownsRow 0 61 1 (.slice (some ⟨g, 0, none⟩) ps.length ps.length) ps.length ((pickL d.kids ps).map ptr) ∧ Below w.heap.size w w' := by
  have HP := Lib.hid (hM.part n d hd)
  have HK := Lib.hid hk
  have HPS := Lib.hid hps
  obtain ⟨s, hs⟩ : ∃ s, s = V n := ⟨_, rfl⟩
  rw [← hs] at HP
  clear hs hM hk hps
  obtain ⟨A0, c, hsv, hc1, hc2, hrow⟩ := HP.out.kids
  obtain ⟨z0, z1, z2, z3, z4, z5, z6⟩ := HP.out.cells
  obtain ⟨nk, enk⟩ : ∃ nk, nk = d.kids.length := ⟨_, rfl⟩
  have ENK := Lib.hid enk
  obtain ⟨m, em⟩ : ∃ m, m = ps.length := ⟨_, rfl⟩
  have EM := Lib.hid em
  have HROW := Lib.hid hrow
  rw [← em] at hn h0 ⊢
  rw [hsv, ← enk] at z6
  have HZ := Lib.hid z6
  obtain ⟨ys, hys⟩ : ∃ ys, ys = (pickL d.kids ps).map ptr := ⟨_, rfl⟩
  have HYS := Lib.hid hys
  rw [← hys]
  have HL := Lib.hid (show ys.length = m by rw [hys, List.length_map]; unfold pickL; rw [List.length_map, ← em])
  unfold ptr
  clear hsv hc1 hc2 hrow em enk hys z0 z1 z2 z3 z4 z5 z6
  have hn' : (m : Int) ≤ 20 := by omega
  obtain ⟨i0, hi, hz0, hz1, hz2⟩ := info_parts A.infoPp
  go_enter Tryz.func67, Tryz.ntmps67
  go_wp2_with (first | (at_make; refine wpList_make_full _ rfl _ _ 73 rfl 0 61 i0 (.pointer none) 1 Tryz.underlying73 hi hz0 hz1 .i64 .i64 _ _ m rfl rfl rfl rfl (by rw [hz2]; omega) (by unfold maxLen; omega) (Nat.zero_le _) ?_; intro w2 hown hgrow))
  have R0 := Lib.hid hown
  have B2 := Lib.hid ((Below.refl w.heap.size w).grown hgrow (Nat.le_refl _) (fun k hk => by cases hk))
  clear hown hgrow
  obtain ⟨g, hg⟩ : ∃ g, g = w.heap.size := ⟨_, rfl⟩
  rw [← hg] at R0 ⊢
  have HG := Lib.hid hg
  clear hg
  go_loopw [13] (fun i wr => PkR w g m ys i wr) (fun i _ => m - (intOf i).toNat)
  case atStart => exact ⟨0, _, Nat.zero_le _, rfl, R0.out, rfl, B2.out⟩
  case round =>
    clear B2 R0
    obtain ⟨j, xs, hj, rfl, hR, hx, hB⟩ := hrel
    have HR := Lib.hid hR
    have HX := Lib.hid hx
    have HB := Lib.hid hB
    clear hR hB hx
    by_cases hlt : j < m
    · have hlz : (j : Int) < (m : Int) := by omega
      have hj0 : (0 : Int) ≤ (j : Int) := by omega
      have hjl : j < ps.length := by rw [← EM.out]; exact hlt
      obtain ⟨p, hp⟩ : ∃ p, p = ps[j] := ⟨_, rfl⟩
      have hpk : p < d.kids.length := by rw [hp]; exact HK.out _ (List.getElem_mem hjl)
      obtain ⟨q, eq, hq, hc⟩ := HROW.out (by omega)
      have c1 : wr.cell? ⟨g', o + j, none⟩ = some (.int .i64 (p : Nat)) := by rw [hp]; exact ((HPS.out.later HB.out).2 j hjl)
      have c2 : wr.cell? ⟨q, p, none⟩ = some (ptr d.kids[p]) := cell_later HB.out (hc p hpk)
      obtain ⟨b, hb⟩ : ∃ b, b = d.kids[p] := ⟨_, rfl⟩
      rw [← hb] at c2
      unfold ptr at c2
      have c3 := cell_later HB.out HZ.out
      have HY := Lib.hid (show ys[j]? = some (ptr b) by
        rw [HYS.out]
        unfold pickL
        rw [List.getElem?_map, List.getElem?_map, List.getElem?_eq_getElem hjl]
        simp only [Option.map_some, ← hp, List.getD_eq_getElem?_getD, List.getElem?_eq_getElem hpk, Option.getD_some, ← hb])
      have hp0 : (0 : Int) ≤ (p : Int) := by omega
      have hpl : (p : Int) < (nk : Int) := by have := ENK.out; omega
      have len : xs.length = m * 1 := HR.out.1
      obtain ⟨u0, eu0⟩ : ∃ u, xs[j]? = some u := ⟨_, List.getElem?_eq_getElem (by omega)⟩
      have t0 := (HR.out.cellAt j (by omega)).trans eu0
      have tf := HR.out.frozenAt
      subst eq
      have HPK := Lib.hid hpk
      clear hc hb hp hpk eu0
      go_wp2_with fail
      go_roundw
      case rel =>
        refine ⟨j + 1, xs.set j (ptr b), by omega, by go_num, (HR.out.stored j (ptr b)).1, take_set (by omega) HX.out HY.out, HB.out.setCell (by rw [HG.out]; exact Nat.le_refl _) _⟩
      case measure => simp [intOf]; omega
    · have hlz : ¬ (j : Int) < (m : Int) := by omega
      have hjm : j = m := by omega
      have h2 := HR.out
      have len : xs.length = m * 1 := h2.1
      have hx := HX.out
      rw [hjm, List.take_of_length_le (by omega), List.take_of_length_le (by rw [HL.out]; exact Nat.le_refl _)] at hx
      rw [hx] at h2
      have HF := Lib.hid h2
      clear h2 hjm hx len
      go_wp2_with fail
      go_ret
      exact ⟨g, rfl, by rw [HG.out]; exact Nat.le_refl _, HF.out, HB.out⟩
end Go.Proofs.YtobkgamcjfjghaaGreat.Rt
/-
  Contracts of slices.IndexFunc and slices.DeleteFunc at a row of parts, by closures that tell of each part whether it goes. Only the row's own block is written.
-/
namespace Go.Proofs.YtobkgamcjfjghaaGreat.Rt
open Go.RowKit Go.Proofs.YtobkgamcjfjghaaGreat.Pt Go.Proofs.YtobkgamcjfjghaaGreat.Rc Go.Proofs.YtobkgamcjfjghaaGreat.Rs
set_option linter.unusedVariables false
set_option linter.unusedSimpArgs false
set_option maxRecDepth 100000

/-- A block of pointers. -/
def Bp (W : World) (g : Nat) (cur : Array Value) : Prop := W.heap[g]? = some (.cells cur 61 (0, 0))
theorem Bp.cell {W : World} {g : Nat} {cur : Array Value} (h : Bp W g cur) (j : Nat) : W.cell? ⟨g, j, none⟩ = cur[j]? := by
  unfold Bp at h
  simp [World.cell?, h]
theorem Bp.soft {W : World} {g : Nat} {cur : Array Value} (h : Bp W g cur) (j : Nat) : W.frozen? ⟨g, j, none⟩ = false := by
  unfold Bp at h
  simp [World.frozen?, h]
theorem Bp.set {W : World} {g : Nat} {cur : Array Value} (h : Bp W g cur) (j : Nat) (v : Value) : Bp (W.setCell ⟨g, j, none⟩ v) g (cur.setIfInBounds j v) := set_obj h j v
theorem Bp.lt {W : World} {g : Nat} {cur : Array Value} (h : Bp W g cur) : g < W.heap.size := (Array.getElem?_eq_some_iff.1 h).1
theorem Bp.below {W V : World} {g : Nat} {cur : Array Value} (h : Bp W g cur) (hb : Below W.heap.size W V) : Bp V g cur := (hb.block g h.lt).trans h
theorem set_cells {g : Nat} : ∀ (vs : List Value) (o : Nat) {W : World} {cur : Array Value}, Bp W g cur → o + vs.length ≤ cur.size → ∃ cur', Bp (W.setCells g o vs) g cur' ∧ cur'.size = cur.size ∧ ∀ j, cur'[j]? = if o ≤ j ∧ j < o + vs.length then vs[j - o]? else cur[j]?
  | [], o, W, cur, h, _ => ⟨cur, h, rfl, fun j => by rw [if_neg (by rintro ⟨h1, h2⟩; simp at h2; omega)]⟩
  | v :: r, o, W, cur, h, hl => by
    simp only [List.length_cons] at hl ⊢
    obtain ⟨cur', h1, h2, h3⟩ := set_cells r (o + 1) (h.set o v) (by simp; omega)
    refine ⟨cur', h1, by simpa using h2, fun j => ?_⟩
    rw [h3 j]
    by_cases c1 : o + 1 ≤ j ∧ j < o + 1 + r.length
    · rw [if_pos c1, if_pos (by omega), show j - o = (j - (o + 1)) + 1 by omega, List.getElem?_cons_succ]
    · rw [if_neg c1]
      by_cases c2 : j = o
      · subst c2
        rw [if_pos (by omega), Nat.sub_self, List.getElem?_cons_zero, Array.getElem?_setIfInBounds_self_of_lt (by omega)]
      · rw [if_neg (by omega), Array.getElem?_setIfInBounds_ne (fun e => c2 e.symm)]
theorem grown_sets {g : Nat} : ∀ (vs : List Value) (o : Nat) (W : World), W.grownBy (W.setCells g o vs) (some g)
  | [], o, W => World.grownBy.refl _ _
  | v :: r, o, W => World.grownBy.trans (⟨rfl, rfl, rfl, by simp, fun k _ hk => Below.heap_setCell _ _ _ _ (fun e => hk (by rw [e]))⟩ : W.grownBy (W.setCell ⟨g, o, none⟩ v) (some g)) (grown_sets r (o + 1) _)
theorem grown_below' {a b c : World} {r : Option Nat} (h : a.grownBy b r) (k : Below b.heap.size b c) : a.grownBy c r :=
  ⟨k.os.trans h.os, k.tape.trans h.tape, k.output.trans h.output, Nat.le_trans h.size k.size, fun j hj hr => (k.block j (Nat.lt_of_lt_of_le hj h.size)).trans (h.block j hj hr)⟩
theorem grown_set' {a b : World} {g j : Nat} {v : Value} (h : a.grownBy b (some g)) : a.grownBy (b.setCell ⟨g, j, none⟩ v) (some g) :=
  World.grownBy.trans h ⟨rfl, rfl, rfl, by simp, fun k _ hk => Below.heap_setCell _ _ _ _ (fun e => hk (by rw [e]))⟩
/-- What the closure tells of each part, wherever the row has been written. -/
def Tells (fn : FuncId) (g h : Nat) (ks : List Nat) (P : Nat → Bool) (w : World) : Prop :=
  ∀ W, w.grownBy W (some g) → ∀ k ∈ ks, Calls Tryz.prog fn #[ptr k, .pointer (some ⟨h, 0, none⟩)] W fun e w' => e = .returned (.bool (P k)) ∧ Below W.heap.size W w'
/-- The place of the first that goes, or -1. -/
def IxE (ks : List Nat) (P : Nat → Bool) (v : Int) : Prop := (v = -1 ∧ ∀ k ∈ ks, P k = false) ∨ ∃ (j : Nat) (h : j < ks.length), v = (j : Int) ∧ P ks[j] = true ∧ ∀ (i : Nat) (hi : i < ks.length), i < j → P ks[i] = false
def IxR (w : World) (ks : List Nat) (P : Nat → Bool) (i : Value) (wr : World) : Prop := ∃ j : Nat, j ≤ ks.length ∧ i = .int .i64 j ∧ (∀ (t : Nat) (ht : t < ks.length), t < j → P ks[t] = false) ∧ Below w.heap.size w wr
theorem below_grown {a b : World} {r : Option Nat} (h : Below a.heap.size a b) : a.grownBy b r := ⟨h.os, h.tape, h.output, h.size, fun k hk _ => h.block k hk⟩
theorem filter_take {P : Nat → Bool} {ks : List Nat} {j : Nat} (h : j < ks.length) : (ks.take (j + 1)).filter (fun k => !P k) = (ks.take j).filter (fun k => !P k) ++ (if P ks[j] = true then [] else [ks[j]]) := by
  rw [List.take_succ_eq_append_getElem h, List.filter_append]
  congr 1
  simp only [List.filter_cons, List.filter_nil]
  cases P ks[j] <;> rfl
theorem filter_none {P : Nat → Bool} {ks : List Nat} (h : ∀ k ∈ ks, P k = false) : ks.filter (fun k => !P k) = ks := List.filter_eq_self.2 fun k hk => by simp [h k hk]
/-- The row so far: the first i are those that stay of the first j, from j on it is as it was. -/
def DlC (g : Nat) (ks : List Nat) (P : Nat → Bool) (cap i j : Nat) (W : World) : Prop :=
  ∃ cur : Array Value, Bp W g cur ∧ cur.size = cap ∧ ((ks.take j).filter fun k => !P k).length = i ∧ (∀ t, t < i → cur[t]? = (((ks.take j).filter fun k => !P k).map ptr)[t]?) ∧ ∀ (t : Nat) (ht : t < ks.length), j ≤ t → cur[t]? = some (ptr ks[t])
def DlR (w : World) (g : Nat) (ks : List Nat) (P : Nat → Bool) (cap : Nat) (vi vj : Value) (wr : World) : Prop :=
  ∃ i j : Nat, vi = .int .i64 i ∧ vj = .int .i64 j ∧ j ≤ ks.length ∧ i < j ∧ DlC g ks P cap i j wr ∧ w.grownBy wr (some g)

set_option maxHeartbeats 1000000 in
theorem index_ls (g cap h : Nat) (ks : List Nat) (P : Nat → Bool) (w : World) (hc : ∀ (i : Nat) (hi : i < ks.length), w.cell? ⟨g, i, none⟩ = some (ptr ks[i])) (hg : 0 < ks.length → g < w.heap.size) (hn : ks.length ≤ 20) (hP : Tells 53 g h ks P w) (A : Option Addr) (hA : 0 < ks.length → A = some ⟨g, 0, none⟩) :
    Calls Tryz.prog 62 #[.slice A ks.length cap, .func (.func 53) #[] #[.pointer (some ⟨h, 0, none⟩)]] w fun e w' => ∃ v, e = .returned (.int .i64 v) ∧ IxE ks P v ∧ Below w.heap.size w w' := by
  have HC := Lib.hid hc
  have HG := Lib.hid hg
  have HP := Lib.hid hP
  have HA := Lib.hid hA
  obtain ⟨n, en⟩ : ∃ n, n = ks.length := ⟨_, rfl⟩
  have EN := Lib.hid en
  rw [← en] at hn ⊢
  clear hc hg hP hA en
  have hn' : (n : Int) ≤ 20 := by omega
  go_enter Tryz.func62, Tryz.ntmps62
  go_wp2_with fail
  go_loopw [8] (fun i wr => IxR w ks P i wr) (fun i _ => n - (intOf i).toNat)
  case atStart => exact ⟨0, Nat.zero_le _, rfl, fun t _ h => absurd h (Nat.not_lt_zero _), Below.refl _ _⟩
  case round =>
    obtain ⟨j, hj, rfl, hno, hB⟩ := hrel
    rw [← EN.out] at hj
    have HNO := Lib.hid hno
    have HB := Lib.hid hB
    clear hno hB
    by_cases hlt : j < n
    · have hlz : (j : Int) < (n : Int) := by omega
      have hj0 : (0 : Int) ≤ (j : Int) := by omega
      have hjl : j < ks.length := by rw [← EN.out]; exact hlt
      have eA := HA.out (by omega)
      subst eA
      obtain ⟨b, hb⟩ : ∃ b, b = ks[j] := ⟨_, rfl⟩
      have c1 : wr.cell? ⟨g, j, none⟩ = some (ptr b) := by rw [hb]; exact (HB.out.cell (p := ⟨g, j, none⟩) (HG.out (by omega))).trans (HC.out j hjl)
      have CP := Lib.hid (HP.out wr (below_grown HB.out) b (by rw [hb]; exact List.getElem_mem hjl))
      have HBB := Lib.hid hb
      obtain ⟨r, hr⟩ : ∃ r, r = P b := ⟨_, rfl⟩
      rw [← hr] at CP
      have HR := Lib.hid hr
      unfold ptr at c1 CP
      clear hb hr
      go_wp2_with fail
      refine (CP.out).mono ?_
      rintro e w1 ⟨rfl, hb1⟩
      have B1 := Lib.hid (HB.out.trans (hb1.mono HB.out.size))
      clear hb1 c1
      cases r
      · go_wp2_with fail
        go_roundw
        case rel => exact ⟨j + 1, by omega, by go_num, fun t ht htj => by
          by_cases e : t = j
          · subst e; rw [← HBB.out]; exact HR.out.symm
          · exact HNO.out t ht (by omega), B1.out⟩
        case measure => simp [intOf]; omega
      · go_wp2_with fail
        go_ret
        exact ⟨_, rfl, Or.inr ⟨j, hjl, rfl, by rw [← HBB.out]; exact HR.out.symm, fun i hi hij => HNO.out i hi hij⟩, B1.out⟩
    · have hlz : ¬ (j : Int) < (n : Int) := by omega
      have hjn : j = ks.length := by have := EN.out; omega
      have HF := Lib.hid (show ∀ k ∈ ks, P k = false by
        intro k hk
        obtain ⟨i, hi, rfl⟩ := List.getElem_of_mem hk
        exact HNO.out i hi (by omega))
      clear hjn
      go_wp2_with fail
      go_ret
      exact ⟨_, rfl, Or.inl ⟨rfl, HF.out⟩, HB.out⟩
set_option maxHeartbeats 2000000 in
theorem dels_ls (g cap h : Nat) (ks : List Nat) (P : Nat → Bool) (w : World) (hrow : w.ownsRow 0 61 1 (.slice (some ⟨g, 0, none⟩) ks.length cap) ks.length (ks.map ptr)) (hn : ks.length ≤ 20) (hP : Tells 53 g h ks P w) :
    Calls Tryz.prog 52 #[.slice (some ⟨g, 0, none⟩) ks.length cap, .func (.func 53) #[] #[.pointer (some ⟨h, 0, none⟩)]] w fun e w' => e = .returned (.slice (some ⟨g, 0, none⟩) (ks.filter fun k => !P k).length cap) ∧ w'.ownsRow 0 61 1 (.slice (some ⟨g, 0, none⟩) (ks.filter fun k => !P k).length cap) (ks.filter fun k => !P k).length ((ks.filter fun k => !P k).map ptr) ∧ w.grownBy w' (some g) := by
  have HROW := Lib.hid hrow
  have HP := Lib.hid hP
  have hcell : ∀ (i : Nat) (hi : i < ks.length), w.cell? ⟨g, i, none⟩ = some (ptr ks[i]) := fun i hi => by
    rw [hrow.cellAt i (by omega), List.getElem?_map, List.getElem?_eq_getElem hi]
    rfl
  rcases hrow.2 with ⟨e, _⟩ | ⟨g2, cap2, cur, e, _, hh, hnc, hcm, hcs, htake⟩
  · cases e
  simp only [Value.slice.injEq, Option.some.injEq, Addr.mk.injEq, and_true, true_and] at e
  obtain ⟨rfl, rfl⟩ := e
  have HH := Lib.hid (show Bp w g cur from hh)
  have HCS := Lib.hid (show cur.size = cap by omega)
  have HCUR := Lib.hid (show ∀ (t : Nat) (ht : t < ks.length), cur[t]? = some (ptr ks[t]) from fun t ht => by rw [← HH.out.cell t]; exact hcell t ht)
  have CI := Lib.hid (index_ls g cap h ks P w hcell (fun _ => HH.out.lt) hn hP (some ⟨g, 0, none⟩) (fun _ => rfl))
  obtain ⟨n, en⟩ : ∃ n, n = ks.length := ⟨_, rfl⟩
  have EN := Lib.hid en
  rw [← en] at hn hnc CI ⊢
  have NC := Lib.hid hnc
  have CM := Lib.hid hcm
  clear hrow hP hcell hh hcs htake en
  have hn' : (n : Int) ≤ 20 := by omega
  have hcm' : cap ≤ 9223372036854775807 := hcm
  have t73 := Tryz.underlying73
  obtain ⟨i0, hi, hz0, hz1, hz2⟩ := info_parts A.infoPp
  go_enter Tryz.func52, Tryz.ntmps52
  go_wp2_with fail
  refine (CI.out).mono ?_
  rintro e w1 ⟨v, rfl, hix, hb1⟩
  have B1 := Lib.hid hb1
  clear hb1 CI
  rcases hix with ⟨rfl, hno⟩ | ⟨j0, hj0l, rfl, hyes, hfst⟩
  · have HF := Lib.hid (filter_none hno)
    clear hno
    go_wp2_with fail
    go_ret
    rw [HF.out, ← EN.out]
    refine ⟨rfl, ?_, below_grown B1.out⟩
    have := HROW.out
    rw [← EN.out] at this
    exact this.kept (below_grown (r := none) B1.out) (Or.inr (by simp [Value.ownBlock]))
  · have hz : ¬ ((j0 : Nat) : Int) = -1 := by omega
    have H0 := Lib.hid (show DlC g ks P cap j0 (j0 + 1) w1 by
      have e1 : (ks.take j0).filter (fun k => !P k) = ks.take j0 := filter_none fun k hk => by
        obtain ⟨i, hi', rfl⟩ := List.getElem_of_mem hk
        rw [List.getElem_take]
        rw [List.length_take] at hi'
        exact hfst i (by omega) (by omega)
      refine ⟨cur, HH.out.below (B1.out.mono (Nat.le_refl _)), HCS.out, ?_, fun t ht => ?_, fun t ht _ => HCUR.out t ht⟩
      · rw [filter_take hj0l, if_pos hyes, List.append_nil, e1, List.length_take]; omega
      · rw [filter_take hj0l, if_pos hyes, List.append_nil, e1, HCUR.out t (by omega), List.getElem?_map, List.getElem?_take_of_lt ht, List.getElem?_eq_getElem (by omega)]
        rfl)
    have hj0n : (j0 : Int) < (n : Int) := by have := EN.out; omega
    have hj00 : (0 : Int) ≤ (j0 : Int) := by omega
    clear hyes hfst
    go_wp2_with fail
    go_loopw [5, 6] (fun vi vj wr => DlR w g ks P cap vi vj wr) (fun _ vj _ => n - (intOf vj).toNat)
    case atStart => exact ⟨j0, j0 + 1, rfl, by go_num, by omega, by omega, H0.out, below_grown B1.out⟩
    case round =>
      clear H0
      obtain ⟨i, j, rfl, rfl, hj, hij, hD, hG⟩ := hrel
      rw [← EN.out] at hj
      have HD := Lib.hid hD
      have HG := Lib.hid hG
      clear hD hG
      obtain ⟨cw, k1, k2, k3, k4, k5⟩ := HD.out
      by_cases hlt : j < n
      · have hlz : (j : Int) < (n : Int) := by omega
        have hjz : (0 : Int) ≤ (j : Int) := by omega
        have hiz : (0 : Int) ≤ (i : Int) := by omega
        have hin : (i : Int) < (n : Int) := by omega
        have hjl : j < ks.length := by rw [← EN.out]; exact hlt
        obtain ⟨b, hb⟩ : ∃ b, b = ks[j] := ⟨_, rfl⟩
        have c1 : wr.cell? ⟨g, j, none⟩ = some (ptr b) := by rw [k1.cell, k5 j hjl (Nat.le_refl _), hb]
        have CP := Lib.hid (HP.out wr HG.out b (by rw [hb]; exact List.getElem_mem hjl))
        have HBB := Lib.hid hb
        obtain ⟨r, hr⟩ : ∃ r, r = P b := ⟨_, rfl⟩
        rw [← hr] at CP
        have HR := Lib.hid hr
        have K1 := Lib.hid k1
        have K2 := Lib.hid k2
        have K3 := Lib.hid k3
        have K4 := Lib.hid k4
        have K5 := Lib.hid k5
        unfold ptr at c1 CP
        clear hb hr k1 k2 k3 k4 k5
        go_wp2_with fail
        refine (CP.out).mono ?_
        rintro e w2 ⟨rfl, hb2⟩
        have G2 := Lib.hid (grown_below' HG.out hb2)
        have Q2 := Lib.hid (K1.out.below hb2)
        clear hb2 c1
        cases r
        · obtain ⟨u0, eu0⟩ : ∃ u, cw[i]? = some u := ⟨_, Array.getElem?_eq_getElem (by have := K2.out; have := NC.out; omega)⟩
          have c2 : w2.cell? ⟨g, i, none⟩ = some u0 := (Q2.out.cell i).trans eu0
          have cf := Q2.out.soft
          clear eu0
          go_wp2_with fail
          go_roundw
          case rel =>
            (repeat apply Exists.intro)
            refine ⟨⟨i + 1, j + 1, by go_num, by go_num, by omega, by omega, ⟨cw.setIfInBounds i (ptr b), Q2.out.set i (ptr b), by simp [K2.out], ?_, fun t ht => ?_, fun t ht htj => ?_⟩, grown_set' G2.out⟩, rfl⟩
            · rw [filter_take hjl, ← HBB.out, ← HR.out, List.length_append, K3.out]; rfl
            · rw [filter_take hjl, ← HBB.out, ← HR.out]
              by_cases e : t = i
              · subst e
                rw [Array.getElem?_setIfInBounds_self_of_lt (by have := K2.out; have := NC.out; omega), List.getElem?_map, List.getElem?_append_right (by rw [K3.out]; exact Nat.le_refl _), K3.out, Nat.sub_self]
                rfl
              · rw [Array.getElem?_setIfInBounds_ne (fun e' => e e'.symm), K4.out t (by omega), List.getElem?_map, List.getElem?_map, List.getElem?_append_left (by rw [K3.out]; omega)]
            · rw [Array.getElem?_setIfInBounds_ne (by omega)]
              exact K5.out t ht (by omega)
          case measure => simp [intOf]; omega
        · go_wp2_with fail
          go_roundw
          case rel =>
            (repeat apply Exists.intro)
            refine ⟨⟨i, j + 1, by go_num, by go_num, by omega, by omega, ⟨cw, Q2.out, K2.out, ?_, fun t ht => ?_, fun t ht htj => K5.out t ht (by omega)⟩, G2.out⟩, rfl⟩
            · rw [filter_take hjl, ← HBB.out, ← HR.out]; simpa using K3.out
            · rw [filter_take hjl, ← HBB.out, ← HR.out, if_pos rfl, List.append_nil]; exact K4.out t ht
          case measure => simp [intOf]; omega
      · have hlz : ¬ (j : Int) < (n : Int) := by omega
        have hjn : j = ks.length := by have := EN.out; omega
        rw [hjn, List.take_of_length_le (Nat.le_refl _)] at k3 k4
        have hil : i < cap := by omega
        have hic : ¬ cap = i := by omega
        have hiz : (0 : Int) ≤ (i : Int) := by omega
        have hin : (i : Int) ≤ (n : Int) := by omega
        have hin2 : i ≤ n := by omega
        have hcn : (n : Int) ≤ (cap : Int) := by have := NC.out; omega
        have hcl : ∀ ty, (Builtin.clear_ #[73] ty #[.slice (some ⟨g, i, none⟩) (n - i) (cap - i)]).run Tryz.prog wr = .ok (.tuple #[]) (wr.setCells g i (List.replicate (n - i) (.pointer none))) :=
          fun ty => Lib.run_clear_slice wr _ _ ty _ t73 (by intro w; simp [zeroValue, typeInfo, hi, hz0]) rfl rfl g i _ _ (by omega) (fun t ht => by rw [k1.cell, Array.getElem?_eq_getElem (by omega)]; rfl) (fun t ht => k1.soft _)
        obtain ⟨cur2, q1, q2, q3⟩ := set_cells (List.replicate (n - i) (.pointer none)) i k1 (by simp; omega)
        have HO := Lib.hid (show (wr.setCells g i (List.replicate (n - i) (.pointer none))).ownsRow 0 61 1 (.slice (some ⟨g, 0, none⟩) i cap) i ((ks.filter fun k => !P k).map ptr) from by
          refine ⟨by rw [List.length_map, k3]; omega, Or.inr ⟨g, cap, cur2, rfl, Nat.zero_le _, q1, by omega, CM.out, by omega, ?_⟩⟩
          apply List.ext_getElem?
          intro t
          rw [Nat.mul_one, List.getElem?_take]
          by_cases ht : t < i
          · rw [if_pos ht, Array.getElem?_toList, q3 t, if_neg (by omega), k4 t ht]
          · rw [if_neg ht, List.getElem?_eq_none (by rw [List.length_map, k3]; omega)])
        have HGG := Lib.hid (World.grownBy.trans HG.out (grown_sets (g := g) (List.replicate (n - i) (.pointer none)) i wr))
        have K3 := Lib.hid k3
        clear k1 k2 k3 k4 k5 q1 q2 q3 hjn
        go_wp2_with fail
        go_ret
        rw [K3.out]
        exact ⟨rfl, HO.out, HGG.out⟩
theorem delf_ls (cap h : Nat) (A : Option Addr) (ks : List Nat) (P : Nat → Bool) (w : World) (hrow : w.ownsRow 0 61 1 (.slice A ks.length cap) ks.length (ks.map ptr)) (hn : ks.length ≤ 20) (hP : ∀ g, (Value.slice A ks.length cap).ownBlock = some g → Tells 53 g h ks P w) :
    Calls Tryz.prog 52 #[.slice A ks.length cap, .func (.func 53) #[] #[.pointer (some ⟨h, 0, none⟩)]] w fun e w' => e = .returned (.slice A (ks.filter fun k => !P k).length cap) ∧ w'.ownsRow 0 61 1 (.slice A (ks.filter fun k => !P k).length cap) (ks.filter fun k => !P k).length ((ks.filter fun k => !P k).map ptr) ∧ w.grownBy w' (Value.slice A ks.length cap).ownBlock := by
  rcases hrow.2 with ⟨e, e2⟩ | ⟨g2, cap2, cur, e, _, hh, hnc, hcm, hcs, htake⟩
  · simp only [Value.slice.injEq] at e
    obtain ⟨rfl, -, rfl⟩ := e
    have : ks = [] := List.length_eq_zero_iff.1 e2
    subst this
    have CI := Lib.hid (index_ls 0 0 h [] P w (fun i hi => absurd hi (Nat.not_lt_zero _)) (fun h => absurd h (Nat.lt_irrefl _)) (Nat.zero_le _) (fun W _ k hk => absurd hk (by simp)) none (fun h => absurd h (Nat.lt_irrefl _)))
    simp only [List.length_nil] at CI ⊢
    clear hrow hP
    go_enter Tryz.func52, Tryz.ntmps52
    go_wp2_with fail
    refine (CI.out).mono ?_
    rintro e w1 ⟨v, rfl, hix, hb1⟩
    rcases hix with ⟨rfl, _⟩ | ⟨j0, hj0, _⟩
    · have B1 := Lib.hid hb1
      clear hb1 CI
      go_wp2_with fail
      go_ret
      exact ⟨rfl, World.ownsRow_nil _ _ _ _, below_grown B1.out⟩
    · exact absurd hj0 (Nat.not_lt_zero _)
  · simp only [Value.slice.injEq] at e
    obtain ⟨rfl, -, rfl⟩ := e
    exact dels_ls g2 cap h ks P w hrow hn (hP g2 rfl)

set_option maxHeartbeats 1000000 in
theorem index_lf (g cap h : Nat) (ks : List Nat) (P : Nat → Bool) (w : World) (hc : ∀ (i : Nat) (hi : i < ks.length), w.cell? ⟨g, i, none⟩ = some (ptr ks[i])) (hg : 0 < ks.length → g < w.heap.size) (hn : ks.length ≤ 20) (hP : Tells 69 g h ks P w) (A : Option Addr) (hA : 0 < ks.length → A = some ⟨g, 0, none⟩) :
    Calls Tryz.prog 62 #[.slice A ks.length cap, .func (.func 69) #[] #[.pointer (some ⟨h, 0, none⟩)]] w fun e w' => ∃ v, e = .returned (.int .i64 v) ∧ IxE ks P v ∧ Below w.heap.size w w' := by
  have HC := Lib.hid hc
  have HG := Lib.hid hg
  have HP := Lib.hid hP
  have HA := Lib.hid hA
  obtain ⟨n, en⟩ : ∃ n, n = ks.length := ⟨_, rfl⟩
  have EN := Lib.hid en
  rw [← en] at hn ⊢
  clear hc hg hP hA en
  have hn' : (n : Int) ≤ 20 := by omega
  go_enter Tryz.func62, Tryz.ntmps62
  go_wp2_with fail
  go_loopw [8] (fun i wr => IxR w ks P i wr) (fun i _ => n - (intOf i).toNat)
  case atStart => exact ⟨0, Nat.zero_le _, rfl, fun t _ h => absurd h (Nat.not_lt_zero _), Below.refl _ _⟩
  case round =>
    obtain ⟨j, hj, rfl, hno, hB⟩ := hrel
    rw [← EN.out] at hj
    have HNO := Lib.hid hno
    have HB := Lib.hid hB
    clear hno hB
    by_cases hlt : j < n
    · have hlz : (j : Int) < (n : Int) := by omega
      have hj0 : (0 : Int) ≤ (j : Int) := by omega
      have hjl : j < ks.length := by rw [← EN.out]; exact hlt
      have eA := HA.out (by omega)
      subst eA
      obtain ⟨b, hb⟩ : ∃ b, b = ks[j] := ⟨_, rfl⟩
      have c1 : wr.cell? ⟨g, j, none⟩ = some (ptr b) := by rw [hb]; exact (HB.out.cell (p := ⟨g, j, none⟩) (HG.out (by omega))).trans (HC.out j hjl)
      have CP := Lib.hid (HP.out wr (below_grown HB.out) b (by rw [hb]; exact List.getElem_mem hjl))
      have HBB := Lib.hid hb
      obtain ⟨r, hr⟩ : ∃ r, r = P b := ⟨_, rfl⟩
      rw [← hr] at CP
      have HR := Lib.hid hr
      unfold ptr at c1 CP
      clear hb hr
      go_wp2_with fail
      refine (CP.out).mono ?_
      rintro e w1 ⟨rfl, hb1⟩
      have B1 := Lib.hid (HB.out.trans (hb1.mono HB.out.size))
      clear hb1 c1
      cases r
      · go_wp2_with fail
        go_roundw
        case rel => exact ⟨j + 1, by omega, by go_num, fun t ht htj => by
          by_cases e : t = j
          · subst e; rw [← HBB.out]; exact HR.out.symm
          · exact HNO.out t ht (by omega), B1.out⟩
        case measure => simp [intOf]; omega
      · go_wp2_with fail
        go_ret
        exact ⟨_, rfl, Or.inr ⟨j, hjl, rfl, by rw [← HBB.out]; exact HR.out.symm, fun i hi hij => HNO.out i hi hij⟩, B1.out⟩
    · have hlz : ¬ (j : Int) < (n : Int) := by omega
      have hjn : j = ks.length := by have := EN.out; omega
      have HF := Lib.hid (show ∀ k ∈ ks, P k = false by
        intro k hk
        obtain ⟨i, hi, rfl⟩ := List.getElem_of_mem hk
        exact HNO.out i hi (by omega))
      clear hjn
      go_wp2_with fail
      go_ret
      exact ⟨_, rfl, Or.inl ⟨rfl, HF.out⟩, HB.out⟩
set_option maxHeartbeats 2000000 in
theorem dels_lf (g cap h : Nat) (ks : List Nat) (P : Nat → Bool) (w : World) (hrow : w.ownsRow 0 61 1 (.slice (some ⟨g, 0, none⟩) ks.length cap) ks.length (ks.map ptr)) (hn : ks.length ≤ 20) (hP : Tells 69 g h ks P w) :
    Calls Tryz.prog 52 #[.slice (some ⟨g, 0, none⟩) ks.length cap, .func (.func 69) #[] #[.pointer (some ⟨h, 0, none⟩)]] w fun e w' => e = .returned (.slice (some ⟨g, 0, none⟩) (ks.filter fun k => !P k).length cap) ∧ w'.ownsRow 0 61 1 (.slice (some ⟨g, 0, none⟩) (ks.filter fun k => !P k).length cap) (ks.filter fun k => !P k).length ((ks.filter fun k => !P k).map ptr) ∧ w.grownBy w' (some g) := by
  have HROW := Lib.hid hrow
  have HP := Lib.hid hP
  have hcell : ∀ (i : Nat) (hi : i < ks.length), w.cell? ⟨g, i, none⟩ = some (ptr ks[i]) := fun i hi => by
    rw [hrow.cellAt i (by omega), List.getElem?_map, List.getElem?_eq_getElem hi]
    rfl
  rcases hrow.2 with ⟨e, _⟩ | ⟨g2, cap2, cur, e, _, hh, hnc, hcm, hcs, htake⟩
  · cases e
  simp only [Value.slice.injEq, Option.some.injEq, Addr.mk.injEq, and_true, true_and] at e
  obtain ⟨rfl, rfl⟩ := e
  have HH := Lib.hid (show Bp w g cur from hh)
  have HCS := Lib.hid (show cur.size = cap by omega)
  have HCUR := Lib.hid (show ∀ (t : Nat) (ht : t < ks.length), cur[t]? = some (ptr ks[t]) from fun t ht => by rw [← HH.out.cell t]; exact hcell t ht)
  have CI := Lib.hid (index_lf g cap h ks P w hcell (fun _ => HH.out.lt) hn hP (some ⟨g, 0, none⟩) (fun _ => rfl))
  obtain ⟨n, en⟩ : ∃ n, n = ks.length := ⟨_, rfl⟩
  have EN := Lib.hid en
  rw [← en] at hn hnc CI ⊢
  have NC := Lib.hid hnc
  have CM := Lib.hid hcm
  clear hrow hP hcell hh hcs htake en
  have hn' : (n : Int) ≤ 20 := by omega
  have hcm' : cap ≤ 9223372036854775807 := hcm
  have t73 := Tryz.underlying73
  obtain ⟨i0, hi, hz0, hz1, hz2⟩ := info_parts A.infoPp
  go_enter Tryz.func52, Tryz.ntmps52
  go_wp2_with fail
  refine (CI.out).mono ?_
  rintro e w1 ⟨v, rfl, hix, hb1⟩
  have B1 := Lib.hid hb1
  clear hb1 CI
  rcases hix with ⟨rfl, hno⟩ | ⟨j0, hj0l, rfl, hyes, hfst⟩
  · have HF := Lib.hid (filter_none hno)
    clear hno
    go_wp2_with fail
    go_ret
    rw [HF.out, ← EN.out]
    refine ⟨rfl, ?_, below_grown B1.out⟩
    have := HROW.out
    rw [← EN.out] at this
    exact this.kept (below_grown (r := none) B1.out) (Or.inr (by simp [Value.ownBlock]))
  · have hz : ¬ ((j0 : Nat) : Int) = -1 := by omega
    have H0 := Lib.hid (show DlC g ks P cap j0 (j0 + 1) w1 by
      have e1 : (ks.take j0).filter (fun k => !P k) = ks.take j0 := filter_none fun k hk => by
        obtain ⟨i, hi', rfl⟩ := List.getElem_of_mem hk
        rw [List.getElem_take]
        rw [List.length_take] at hi'
        exact hfst i (by omega) (by omega)
      refine ⟨cur, HH.out.below (B1.out.mono (Nat.le_refl _)), HCS.out, ?_, fun t ht => ?_, fun t ht _ => HCUR.out t ht⟩
      · rw [filter_take hj0l, if_pos hyes, List.append_nil, e1, List.length_take]; omega
      · rw [filter_take hj0l, if_pos hyes, List.append_nil, e1, HCUR.out t (by omega), List.getElem?_map, List.getElem?_take_of_lt ht, List.getElem?_eq_getElem (by omega)]
        rfl)
    have hj0n : (j0 : Int) < (n : Int) := by have := EN.out; omega
    have hj00 : (0 : Int) ≤ (j0 : Int) := by omega
    clear hyes hfst
    go_wp2_with fail
    go_loopw [5, 6] (fun vi vj wr => DlR w g ks P cap vi vj wr) (fun _ vj _ => n - (intOf vj).toNat)
    case atStart => exact ⟨j0, j0 + 1, rfl, by go_num, by omega, by omega, H0.out, below_grown B1.out⟩
    case round =>
      clear H0
      obtain ⟨i, j, rfl, rfl, hj, hij, hD, hG⟩ := hrel
      rw [← EN.out] at hj
      have HD := Lib.hid hD
      have HG := Lib.hid hG
      clear hD hG
      obtain ⟨cw, k1, k2, k3, k4, k5⟩ := HD.out
      by_cases hlt : j < n
      · have hlz : (j : Int) < (n : Int) := by omega
        have hjz : (0 : Int) ≤ (j : Int) := by omega
        have hiz : (0 : Int) ≤ (i : Int) := by omega
        have hin : (i : Int) < (n : Int) := by omega
        have hjl : j < ks.length := by rw [← EN.out]; exact hlt
        obtain ⟨b, hb⟩ : ∃ b, b = ks[j] := ⟨_, rfl⟩
        have c1 : wr.cell? ⟨g, j, none⟩ = some (ptr b) := by rw [k1.cell, k5 j hjl (Nat.le_refl _), hb]
        have CP := Lib.hid (HP.out wr HG.out b (by rw [hb]; exact List.getElem_mem hjl))
        have HBB := Lib.hid hb
        obtain ⟨r, hr⟩ : ∃ r, r = P b := ⟨_, rfl⟩
        rw [← hr] at CP
        have HR := Lib.hid hr
        have K1 := Lib.hid k1
        have K2 := Lib.hid k2
        have K3 := Lib.hid k3
        have K4 := Lib.hid k4
        have K5 := Lib.hid k5
        unfold ptr at c1 CP
        clear hb hr k1 k2 k3 k4 k5
        go_wp2_with fail
        refine (CP.out).mono ?_
        rintro e w2 ⟨rfl, hb2⟩
        have G2 := Lib.hid (grown_below' HG.out hb2)
        have Q2 := Lib.hid (K1.out.below hb2)
        clear hb2 c1
        cases r
        · obtain ⟨u0, eu0⟩ : ∃ u, cw[i]? = some u := ⟨_, Array.getElem?_eq_getElem (by have := K2.out; have := NC.out; omega)⟩
          have c2 : w2.cell? ⟨g, i, none⟩ = some u0 := (Q2.out.cell i).trans eu0
          have cf := Q2.out.soft
          clear eu0
          go_wp2_with fail
          go_roundw
          case rel =>
            (repeat apply Exists.intro)
            refine ⟨⟨i + 1, j + 1, by go_num, by go_num, by omega, by omega, ⟨cw.setIfInBounds i (ptr b), Q2.out.set i (ptr b), by simp [K2.out], ?_, fun t ht => ?_, fun t ht htj => ?_⟩, grown_set' G2.out⟩, rfl⟩
            · rw [filter_take hjl, ← HBB.out, ← HR.out, List.length_append, K3.out]; rfl
            · rw [filter_take hjl, ← HBB.out, ← HR.out]
              by_cases e : t = i
              · subst e
                rw [Array.getElem?_setIfInBounds_self_of_lt (by have := K2.out; have := NC.out; omega), List.getElem?_map, List.getElem?_append_right (by rw [K3.out]; exact Nat.le_refl _), K3.out, Nat.sub_self]
                rfl
              · rw [Array.getElem?_setIfInBounds_ne (fun e' => e e'.symm), K4.out t (by omega), List.getElem?_map, List.getElem?_map, List.getElem?_append_left (by rw [K3.out]; omega)]
            · rw [Array.getElem?_setIfInBounds_ne (by omega)]
              exact K5.out t ht (by omega)
          case measure => simp [intOf]; omega
        · go_wp2_with fail
          go_roundw
          case rel =>
            (repeat apply Exists.intro)
            refine ⟨⟨i, j + 1, by go_num, by go_num, by omega, by omega, ⟨cw, Q2.out, K2.out, ?_, fun t ht => ?_, fun t ht htj => K5.out t ht (by omega)⟩, G2.out⟩, rfl⟩
            · rw [filter_take hjl, ← HBB.out, ← HR.out]; simpa using K3.out
            · rw [filter_take hjl, ← HBB.out, ← HR.out, if_pos rfl, List.append_nil]; exact K4.out t ht
          case measure => simp [intOf]; omega
      · have hlz : ¬ (j : Int) < (n : Int) := by omega
        have hjn : j = ks.length := by have := EN.out; omega
        rw [hjn, List.take_of_length_le (Nat.le_refl _)] at k3 k4
        have hil : i < cap := by omega
        have hic : ¬ cap = i := by omega
        have hiz : (0 : Int) ≤ (i : Int) := by omega
        have hin : (i : Int) ≤ (n : Int) := by omega
        have hin2 : i ≤ n := by omega
        have hcn : (n : Int) ≤ (cap : Int) := by have := NC.out; omega
        have hcl : ∀ ty, (Builtin.clear_ #[73] ty #[.slice (some ⟨g, i, none⟩) (n - i) (cap - i)]).run Tryz.prog wr = .ok (.tuple #[]) (wr.setCells g i (List.replicate (n - i) (.pointer none))) :=
          fun ty => Lib.run_clear_slice wr _ _ ty _ t73 (by intro w; simp [zeroValue, typeInfo, hi, hz0]) rfl rfl g i _ _ (by omega) (fun t ht => by rw [k1.cell, Array.getElem?_eq_getElem (by omega)]; rfl) (fun t ht => k1.soft _)
        obtain ⟨cur2, q1, q2, q3⟩ := set_cells (List.replicate (n - i) (.pointer none)) i k1 (by simp; omega)
        have HO := Lib.hid (show (wr.setCells g i (List.replicate (n - i) (.pointer none))).ownsRow 0 61 1 (.slice (some ⟨g, 0, none⟩) i cap) i ((ks.filter fun k => !P k).map ptr) from by
          refine ⟨by rw [List.length_map, k3]; omega, Or.inr ⟨g, cap, cur2, rfl, Nat.zero_le _, q1, by omega, CM.out, by omega, ?_⟩⟩
          apply List.ext_getElem?
          intro t
          rw [Nat.mul_one, List.getElem?_take]
          by_cases ht : t < i
          · rw [if_pos ht, Array.getElem?_toList, q3 t, if_neg (by omega), k4 t ht]
          · rw [if_neg ht, List.getElem?_eq_none (by rw [List.length_map, k3]; omega)])
        have HGG := Lib.hid (World.grownBy.trans HG.out (grown_sets (g := g) (List.replicate (n - i) (.pointer none)) i wr))
        have K3 := Lib.hid k3
        clear k1 k2 k3 k4 k5 q1 q2 q3 hjn
        go_wp2_with fail
        go_ret
        rw [K3.out]
        exact ⟨rfl, HO.out, HGG.out⟩
theorem delf_lf (cap h : Nat) (A : Option Addr) (ks : List Nat) (P : Nat → Bool) (w : World) (hrow : w.ownsRow 0 61 1 (.slice A ks.length cap) ks.length (ks.map ptr)) (hn : ks.length ≤ 20) (hP : ∀ g, (Value.slice A ks.length cap).ownBlock = some g → Tells 69 g h ks P w) :
    Calls Tryz.prog 52 #[.slice A ks.length cap, .func (.func 69) #[] #[.pointer (some ⟨h, 0, none⟩)]] w fun e w' => e = .returned (.slice A (ks.filter fun k => !P k).length cap) ∧ w'.ownsRow 0 61 1 (.slice A (ks.filter fun k => !P k).length cap) (ks.filter fun k => !P k).length ((ks.filter fun k => !P k).map ptr) ∧ w.grownBy w' (Value.slice A ks.length cap).ownBlock := by
  rcases hrow.2 with ⟨e, e2⟩ | ⟨g2, cap2, cur, e, _, hh, hnc, hcm, hcs, htake⟩
  · simp only [Value.slice.injEq] at e
    obtain ⟨rfl, -, rfl⟩ := e
    have : ks = [] := List.length_eq_zero_iff.1 e2
    subst this
    have CI := Lib.hid (index_lf 0 0 h [] P w (fun i hi => absurd hi (Nat.not_lt_zero _)) (fun h => absurd h (Nat.lt_irrefl _)) (Nat.zero_le _) (fun W _ k hk => absurd hk (by simp)) none (fun h => absurd h (Nat.lt_irrefl _)))
    simp only [List.length_nil] at CI ⊢
    clear hrow hP
    go_enter Tryz.func52, Tryz.ntmps52
    go_wp2_with fail
    refine (CI.out).mono ?_
    rintro e w1 ⟨v, rfl, hix, hb1⟩
    rcases hix with ⟨rfl, _⟩ | ⟨j0, hj0, _⟩
    · have B1 := Lib.hid hb1
      clear hb1 CI
      go_wp2_with fail
      go_ret
      exact ⟨rfl, World.ownsRow_nil _ _ _ _, below_grown B1.out⟩
    · exact absurd hj0 (Nat.not_lt_zero _)
  · simp only [Value.slice.injEq] at e
    obtain ⟨rfl, -, rfl⟩ := e
    exact dels_lf g2 cap h ks P w hrow hn (hP g2 rfl)
end Go.Proofs.YtobkgamcjfjghaaGreat.Rt
namespace Go.Proofs.YtobkgamcjfjghaaGreat.Rt
open Go.RowKit Go.Proofs.YtobkgamcjfjghaaGreat.Pt Go.Proofs.YtobkgamcjfjghaaGreat.Rc Go.Proofs.YtobkgamcjfjghaaGreat.Rs
set_option linter.unusedVariables false
set_option linter.unusedSimpArgs false
set_option maxRecDepth 100000

/-- A block that holds cells. -/
def Ob (W : World) (k : Nat) : Prop := ∃ c t, W.heap[k]? = some (.cells c t (0, 0))
theorem Ob.lt {W : World} {k : Nat} (h : Ob W k) : k < W.heap.size := by
  obtain ⟨c, t, e⟩ := h
  exact (Array.getElem?_eq_some_iff.1 e).1
theorem Ob.below {W V : World} {k : Nat} (h : Ob W k) (hb : Below W.heap.size W V) : Ob V k := by
  have hl := h.lt
  obtain ⟨c, t, e⟩ := h
  exact ⟨c, t, (hb.block k hl).trans e⟩
theorem PAt.ob {W : World} {b : Nat} {d : Pd} {s : Value} (h : PAt W b d s) : Ob W b := ⟨_, _, h.obj⟩
theorem Mem.ob {W : World} {σ : St} {V : Nat → Value} (h : Mem W σ V) {k : Nat} (hk : ∃ d, σ k = some d) : Ob W k := by
  obtain ⟨d, hd⟩ := hk
  exact (h.part k d hd).ob
theorem A.infoPart : ∃ j, Tryz.prog.info? 75 = some j ∧ j.size ≠ 0 := by
  have h : (Tryz.prog.info? 75).map (fun i => i.size) = some 7 := by kernel_rfl
  cases e : Tryz.prog.info? 75 with
  | none => rw [e] at h; cases h
  | some j =>
    rw [e] at h
    simp at h
    exact ⟨j, rfl, by omega⟩
theorem ptr_eql {k l : Nat} {w : World} (hk : Ob w k) (hl : Ob w l) : (binOp .eql 61 (.pointer (some ⟨k, 0, none⟩)) (.pointer (some ⟨l, 0, none⟩))).run Tryz.prog w = .ok (.bool (k == l)) w := by
  obtain ⟨j, hj, hz⟩ := A.infoPart
  obtain ⟨ck, tk, ek⟩ := hk
  obtain ⟨cl, tl, el⟩ := hl
  by_cases h : k = l
  · subst h
    rw [beq_self_eq_true]
    exact run_eql_ptr_same w _ Tryz.underlying61 hj
  · rw [beq_eq_false_iff_ne.2 h]
    exact run_eql_ptr_other w Tryz.underlying61 hj hz (fun e => h (by simpa using congrArg Addr.block e)) ek el
theorem lose1_any (k l h : Nat) (w : World) (hh : w.cell? ⟨h, 0, none⟩ = some (ptr l)) (hk : Ob w k) (hl : Ob w l) : Calls Tryz.prog 53 #[ptr k, .pointer (some ⟨h, 0, none⟩)] w fun e w' => e = .returned (.bool (k == l)) ∧ Below w.heap.size w w' := by
  have q := ptr_eql hk hl
  clear hk hl
  unfold ptr at hh ⊢
  go_enter Tryz.func53, Tryz.ntmps53
  go_wp2_with fail
  go_ret
  exact ⟨rfl, Below.refl _ _⟩
set_option maxHeartbeats 1000000 in
theorem index_any (g o cap x : Nat) (ks : List Nat) (w : World) (hg : g < w.heap.size) (hc : ∀ (i : Nat) (hi : i < ks.length), w.cell? ⟨g, o + i, none⟩ = some (ptr ks[i])) (hn : ks.length ≤ 20) (hx : Ob w x) (ho : ∀ k ∈ ks, Ob w k) :
    Calls Tryz.prog 61 #[.slice (some ⟨g, o, none⟩) ks.length cap, ptr x] w fun e w' => ∃ v, e = .returned (.int .i64 v) ∧ IxE ks (fun k => k == x) v ∧ Below w.heap.size w w' := by
  have HC := Lib.hid hc
  have HX := Lib.hid hx
  have HO := Lib.hid ho
  obtain ⟨n, en⟩ : ∃ n, n = ks.length := ⟨_, rfl⟩
  have EN := Lib.hid en
  rw [← en] at hn ⊢
  unfold ptr
  clear hc en hx ho
  have hn' : (n : Int) ≤ 20 := by omega
  go_enter Tryz.func61, Tryz.ntmps61
  go_wp2_with fail
  go_loopw [8] (fun i wr => IxR w ks (fun k => k == x) i wr) (fun i _ => n - (intOf i).toNat)
  case atStart => exact ⟨0, Nat.zero_le _, rfl, fun t _ h => absurd h (Nat.not_lt_zero _), Below.refl _ _⟩
  case round =>
    obtain ⟨j, hj, rfl, hno, hB⟩ := hrel
    rw [← EN.out] at hj
    have HNO := Lib.hid hno
    have HB := Lib.hid hB
    clear hno hB
    by_cases hlt : j < n
    · have hlz : (j : Int) < (n : Int) := by omega
      have hj0 : (0 : Int) ≤ (j : Int) := by omega
      have hjl : j < ks.length := by rw [← EN.out]; exact hlt
      obtain ⟨b, hb⟩ : ∃ b, b = ks[j] := ⟨_, rfl⟩
      have c1 : wr.cell? ⟨g, o + j, none⟩ = some (ptr b) := by rw [hb]; exact (HB.out.cell (p := ⟨g, o + j, none⟩) hg).trans (HC.out j hjl)
      have HBB := Lib.hid hb
      have q := ptr_eql (HX.out.below (HB.out)) ((HO.out b (by rw [hb]; exact List.getElem_mem hjl)).below HB.out)
      obtain ⟨r, hr⟩ : ∃ r, r = (x == b) := ⟨_, rfl⟩
      rw [← hr] at q
      have HR := Lib.hid (show (b == x) = r by
        rw [hr]
        by_cases e : b = x
        · subst e; rfl
        · rw [beq_eq_false_iff_ne.2 e, beq_eq_false_iff_ne.2 (fun e' => e e'.symm)])
      unfold ptr at c1
      clear hb hr
      cases r
      · go_wp2_with fail
        go_roundw
        case rel => exact ⟨j + 1, by omega, by go_num, fun t ht htj => by
          by_cases e : t = j
          · subst e; rw [← HBB.out]; exact HR.out
          · exact HNO.out t ht (by omega), HB.out⟩
        case measure => simp [intOf]; omega
      · go_wp2_with fail
        go_ret
        exact ⟨_, rfl, Or.inr ⟨j, hjl, rfl, by rw [← HBB.out]; exact HR.out, fun i hi hij => HNO.out i hi hij⟩, HB.out⟩
    · have hlz : ¬ (j : Int) < (n : Int) := by omega
      have hjn : j = ks.length := by have := EN.out; omega
      have HF := Lib.hid (show ∀ k ∈ ks, (k == x) = false by
        intro k hk
        obtain ⟨i, hi, rfl⟩ := List.getElem_of_mem hk
        exact HNO.out i hi (by omega))
      clear hjn
      go_wp2_with fail
      go_ret
      exact ⟨_, rfl, Or.inl ⟨rfl, HF.out⟩, HB.out⟩
set_option maxHeartbeats 1000000 in
theorem contains_any (g o cap x : Nat) (ks : List Nat) (w : World) (hg : g < w.heap.size) (hc : ∀ (i : Nat) (hi : i < ks.length), w.cell? ⟨g, o + i, none⟩ = some (ptr ks[i])) (hn : ks.length ≤ 20) (hx : Ob w x) (ho : ∀ k ∈ ks, Ob w k) :
    Calls Tryz.prog 50 #[.slice (some ⟨g, o, none⟩) ks.length cap, ptr x] w fun e w' => e = .returned (.bool (ks.contains x)) ∧ Below w.heap.size w w' := by
  have CI := Lib.hid (index_any g o cap x ks w hg hc hn hx ho)
  obtain ⟨n, en⟩ : ∃ n, n = ks.length := ⟨_, rfl⟩
  rw [← en] at CI ⊢
  unfold ptr at CI ⊢
  clear hc hn hx ho en
  go_enter Tryz.func50, Tryz.ntmps50
  go_wp2_with fail
  refine (CI.out).mono ?_
  rintro e w1 ⟨v, rfl, hix, hb1⟩
  rcases hix with ⟨rfl, hno⟩ | ⟨j, hj, rfl, hyes, _⟩
  · have HF := Lib.hid (show ks.contains x = false by
      rw [← Bool.not_eq_true, List.contains_iff_mem]
      intro hm
      have := hno x hm
      simp at this)
    have B1 := Lib.hid hb1
    clear hno hb1
    go_wp2_with fail
    go_ret
    exact ⟨by rw [HF.out]; simp, B1.out⟩
  · have HF := Lib.hid (show ks.contains x = true by
      rw [List.contains_iff_mem]
      have e : ks[j] = x := by simpa using hyes
      rw [← e]
      exact List.getElem_mem hj)
    have B1 := Lib.hid hb1
    have hj0 : (0 : Int) ≤ (j : Int) := by omega
    clear hyes hb1
    go_wp2_with fail
    go_ret
    exact ⟨by rw [HF.out]; simp, B1.out⟩
theorem PAt.setK {W : World} {b : Nat} {d : Pd} {s t : Value} {ks : List Nat} (h : PAt W b d s) (ht : t.ownBlock ≠ some b) (hr : W.ownsRow 0 61 1 t ks.length (ks.map ptr)) : PAt (W.setCell ⟨b, 6, none⟩ t) b { d with kids := ks } t := by
  refine ⟨?_, ?_⟩
  · rw [set_obj h.obj 6 t]
    simp [pdC]
  · refine ⟨hr.1, ?_⟩
    rcases hr.2 with ⟨e, e2⟩ | ⟨g, c, cur, rfl, k1, k2, k3⟩
    · exact Or.inl ⟨e, e2⟩
    · have hg : g ≠ b := fun e => ht (by rw [e]; rfl)
      exact Or.inr ⟨g, c, cur, rfl, k1, by rw [Below.heap_setCell _ _ _ _ hg]; exact k2, k3⟩
/-- The store behind a kids' change and a fit. -/
def fitK (σ : St) (n : Nat) (d : Pd) (ks : List Nat) : St := upd σ n { d with r := hull σ ks, kids := ks }

set_option maxHeartbeats 2000000 in
theorem lose_any (n l : Nat) (d : Pd) (σ : St) (V : Nat → Value) (w : World) (hM : Mem w σ V) (hd : σ n = some d) (hk : ∀ k ∈ d.kids, k ≠ n ∧ ∃ e, σ k = some e) (hn : d.kids.length ≤ 20) (hl : ∃ e, σ l = some e) :
    Calls Tryz.prog 37 #[ptr n, ptr l] w fun e w' => e = .returned (.tuple #[]) ∧ ∃ s, s.ownBlock = (V n).ownBlock ∧ Mem w' (fitK σ n d (d.kids.filter fun k => k != l)) (updV V n s) ∧ Ke (fun k => k = n ∨ (V n).ownBlock = some k) w w' := by
  have HM := Lib.hid hM
  have HD := Lib.hid hd
  obtain ⟨A0, c, hsv, hc1, hc2, hrow⟩ := (hM.part n d hd).kids
  obtain ⟨z0, z1, z2, z3, z4, z5, z6⟩ := (hM.part n d hd).cells
  have HT := Lib.hid (hM.tags hd hd)
  have HNL := Lib.hid (hM.part n d hd).lt
  obtain ⟨h, hh⟩ : ∃ h, h = w.heap.size := ⟨_, rfl⟩
  obtain ⟨v, hv⟩ : ∃ v, v = w.alloc (.cells #[ptr l] 61) := ⟨_, rfl⟩
  have BV := Lib.hid (show Below w.heap.size w v by rw [hv]; exact (Below.refl _ _).alloc (Nat.le_refl _) _)
  have VH := Lib.hid (show v.cell? ⟨h, 0, none⟩ = some (ptr l) by rw [hv, hh]; simp [go_sem])
  have HLT := Lib.hid (show h < v.heap.size by rw [hv, hh]; simp)
  have MV := Lib.hid (hM.later BV.out)
  have PV := Lib.hid (MV.out.part n d hd)
  have hob : ∀ W g', v.grownBy W (some g') → ∀ k, (∃ e, σ k = some e) → (Value.slice A0 d.kids.length c).ownBlock = some g' → Ob W k := fun W g' hW k hk' hg => by
    obtain ⟨e, he⟩ := hk'
    have hkg : k ≠ g' := fun e2 => hM.tags he hd (by rw [hsv, e2]; exact hg)
    exact ⟨_, _, (hW.block k (MV.out.part k e he).lt (fun e3 => hkg (Option.some.inj e3))).trans (MV.out.part k e he).obj⟩
  have CD := Lib.hid (delf_ls c h A0 d.kids (fun k => k == l) v (by have := PV.out.row; rw [hsv] at this; exact this) hn (fun g hg W hW k hk' => lose1_any k l h W (by
    have : g ≠ h := fun e => by
      have hgl := hM.foot_lt (Or.inr ⟨n, d, hd, by rw [hsv]; exact hg⟩)
      omega
    exact (World.cell?_of_block (w := v) (w' := W) (a := ⟨h, 0, none⟩) (hW.block h HLT.out (fun e => this (Option.some.inj e).symm))).trans VH.out) (hob W g hW k (hk k hk').2 hg) (hob W g hW l hl hg)))
  have ek : (d.kids.filter fun k => !(k == l)) = d.kids.filter fun k => k != l := rfl
  rw [ek] at CD
  obtain ⟨ks, eks⟩ : ∃ ks, ks = d.kids.filter fun k => k != l := ⟨_, rfl⟩
  rw [← eks] at CD ⊢
  have HKS := Lib.hid (show ∀ k ∈ ks, k ≠ n ∧ ∃ e, σ k = some e from fun k hk' => hk k (by rw [eks] at hk'; exact (List.mem_filter.1 hk').1))
  have HKL := Lib.hid (show ks.length ≤ 20 by rw [eks]; exact Nat.le_trans (List.length_filter_le _ _) hn)
  have HSV := Lib.hid hsv
  obtain ⟨m, em⟩ : ∃ m, m = d.kids.length := ⟨_, rfl⟩
  rw [hsv, ← em] at z6
  have c6 := cell_later BV.out z6
  have c7 := cell_later (show Below w.heap.size w (w.alloc (.cells #[ptr l] 61)) from (Below.refl _ _).alloc (Nat.le_refl _) _) z6
  have hvs : w.alloc (.cells #[ptr l] 61) = v := hv.symm
  have EM := Lib.hid em
  rw [← em] at CD
  unfold ptr at hvs CD c7 ⊢
  have HVS := Lib.hid hvs
  have HH := Lib.hid hh
  clear hM hd hsv hc1 hc2 hrow z0 z1 z2 z3 z4 z5 hv hk eks ek hvs em hob hl
  go_enter Tryz.func37, Tryz.ntmps37
  go_wp2_with fail
  rw [HVS.out, ← hh]
  refine (CD.out).mono ?_
  rintro e w1 ⟨rfl, hrow, hgr⟩
  have HROW := Lib.hid hrow
  have HSV2 := Lib.hid (show V n = .slice A0 m c by rw [HSV.out, ← EM.out])
  have K1 := Lib.hid (show Ke (fun k => k = n ∨ (V n).ownBlock = some k) w w1 from (Ke.of_below (X := fun k => k = n ∨ (V n).ownBlock = some k) BV.out).grown hgr (fun k hk => Or.inl (Or.inr (by rw [HSV2.out]; exact hk))))
  have P1 := Lib.hid (show w1.heap[n]? = some (.cells (pdC d (V n)) 75 (0, 0)) from (hgr.block n PV.out.lt (fun e => HT.out (by rw [HSV2.out]; exact e.symm))).trans PV.out.obj)
  have q6 : w1.cell? ⟨n, 6, none⟩ = some (V n) := by have := P1.out; simp [World.cell?, this, pdC]
  have qf : ∀ o, w1.frozen? ⟨n, o, none⟩ = false := fun o => by have := P1.out; simp [World.frozen?, this]
  obtain ⟨s, es⟩ : ∃ s, s = Value.slice A0 ks.length c := ⟨_, rfl⟩
  have HO := Lib.hid (show s.ownBlock = (V n).ownBlock by rw [es, HSV2.out]; cases A0 <;> rfl)
  have P2 := Lib.hid (show PAt (w1.setCell ⟨n, 6, none⟩ s) n { d with kids := ks } s from by
    have hrs : w1.ownsRow 0 61 1 s ks.length (ks.map ptr) := by rw [es]; exact hrow
    have ht : s.ownBlock ≠ some n := by rw [HO.out]; exact HT.out
    refine ⟨?_, ?_⟩
    · rw [set_obj P1.out 6 s]
      simp [pdC]
    · refine ⟨hrs.1, ?_⟩
      rcases hrs.2 with ⟨e, e2⟩ | ⟨g, c', cur, e, k1, k2, k3⟩
      · exact Or.inl ⟨e, e2⟩
      · have hg : g ≠ n := fun e' => ht (by rw [e, e']; rfl)
        exact Or.inr ⟨g, c', cur, e, k1, by rw [Below.heap_setCell _ _ _ _ hg]; exact k2, k3⟩)
  have K2 := Lib.hid (K1.out.set n 6 s (Or.inl (Or.inl rfl)))
  have AP := Lib.hid (show ∀ c' e g, σ c' = some e → c' ≠ n → (V c').ownBlock = some g → s.ownBlock ≠ some g from fun c' e g hc' hne hg hg2 => hne (HM.out.apart c' n e d g hc' HD.out hg (by rw [← HO.out]; exact hg2)))
  have M2 := Lib.hid (HM.out.put HD.out P2.out K2.out AP.out)
  have CF := Lib.hid (fit_any n { d with kids := ks } _ _ _ M2.out (upd_same _ _ _) (fun k hk' => ⟨(HKS.out k hk').1, by rw [upd_other _ _ (HKS.out k hk').1]; exact (HKS.out k hk').2⟩) HKL.out)
  rw [updV_same, hull_upd (fun k hk' => (HKS.out k hk').1)] at CF
  have HES := Lib.hid es.symm
  unfold ptr at CF
  dsimp only at CF
  rw [es] at CF
  clear hrow hgr c6 z6 CD es c7
  go_wp2_with fail
  refine (CF.out).mono ?_
  rintro e w3 ⟨rfl, hP3, hK3⟩
  rw [HES.out] at hP3 hK3
  have P3 := Lib.hid hP3
  have K3 := Lib.hid (K2.out.trans hK3 (fun g _ hg => Or.inl hg))
  clear hP3 hK3 q6 qf
  go_wp2_with fail
  refine bodyPost_end (v := .tuple #[]) (by simp [results, Tryz.results37, go_sem]) rfl ⟨rfl, s, HO.out, ?_, K3.out⟩
  exact HM.out.put HD.out P3.out K3.out AP.out
end Go.Proofs.YtobkgamcjfjghaaGreat.Rt
