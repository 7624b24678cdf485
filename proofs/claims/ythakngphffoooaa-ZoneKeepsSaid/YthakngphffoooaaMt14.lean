/-
  The statement ZoneTells holds: any region's safe zone, by any box, its cover's box, and whether any move is safe (P17.1). For every input; no condition.
-/
import Derived.Test.YthakngphffoooaaMt03
import Derived.Deep.SlicePairs
import Derived.WideShapes
import Derived.ChangeArms
import Derived.OpenShut
import Derived.ChangeOld
import Derived.Test.YthakngphffoooaaRows
import Derived.Test.YthakngphffoooaaMt13
import Derived.WalkKit
import Derived.ProofKit
import Derived.Below
import Derived.ChangeSame
import Derived.JoinedOf
import Derived.JoinedAt
import Derived.Lib.SmallJoins
/-
  An argument that is a slice of points, opened: its value, the points that it holds, and where they lie. No program here.
-/
namespace Go.Proofs.Ythakngphffoooaa.Pts
open Go.RowKit Go.ChangeShapes Go.WideShapes Go.Deep

theorem open_pts {H : Type} {enc : TypeId × Value → H} {P : Program} {W : World} {base b0 : Nat} {spare : Nat → Bool} {held : Bool} {r : Reach} {t e i : TypeId} {f0 f1 : Field} {v : Value} {d : DataW H} {p : List MemPlace}
    (ht : P.underlying t = some (.slice e)) (he : P.underlying e = some (.struct #[f0, f1])) (ce : P.cellsOf e = 2) (o0 : f0.offset = 0) (o1 : f1.offset = 1) (c0 : P.cellsOf f0.type = 1) (c1 : P.cellsOf f1.type = 1)
    (t0 : f0.type = i) (t1 : f1.type = i) (hi : P.underlying i = some (.int .i64)) (hv : Value.okWide P W r b0 t v) (h : DataW.Trod enc P W base spare held t v d p) :
    ∃ (A : Option Addr) (l : List (Int × Int)) (c : Nat), v = .slice A l.length c ∧ l.length ≤ maxLen ∧ PtsAt W W.heap.size A l := by
  obtain ⟨a, n, c, rfl⟩ := okWide_slice ht hv
  obtain ⟨fuel, hf⟩ := h
  rcases open_slice_pairs ht he ce o0 o1 c0 c1 hf with ⟨h0, _⟩ | ⟨ad, len, cap, m, k, V0, V1, D0, D1, P0, P1, h0, _, hl, hm, hmm, _, hc⟩
  · simp [Value.cells] at h0
    obtain ⟨rfl, rfl, rfl⟩ := h0
    exact ⟨none, [], 0, rfl, Nat.zero_le _, fun h => absurd rfl h⟩
  · simp [Value.cells] at h0
    obtain ⟨rfl, rfl, rfl⟩ := h0
    have hnm : n ≤ m := by rw [hmm]; split <;> omega
    have each : ∀ j, j < n → ∃ q : Int × Int, W.cell? (ad.add (j * 2)) = some (.int .i64 q.1) ∧ W.cell? (ad.add (j * 2 + 1)) = some (.int .i64 q.2) := by
      intro j hj
      obtain ⟨g0, g1, u0, u1⟩ := hc j (by omega)
      rw [t0] at u0
      rw [t1] at u1
      obtain ⟨x, e0, _, _⟩ := DataW.trod_int hi u0
      obtain ⟨y, e1, _, _⟩ := DataW.trod_int hi u1
      simp at e0 e1
      exact ⟨(x, y), by rw [g0, e0], by rw [g1, e1]⟩
    obtain ⟨q, hq⟩ := choose_lt each
    refine ⟨some ad, (List.range n).map q, c, by simp, by simp; omega, fun hne => ?_⟩
    have hn : 0 < n := by
      rcases Nat.eq_zero_or_pos n with h | h
      · subst h; exact absurd rfl hne
      · exact h
    have hs : ad.spot = none := World.cell?_spot (by simpa [Addr.add] using (hq 0 hn).1)
    obtain ⟨b, off, s⟩ := ad
    simp at hs
    subst hs
    refine ⟨b, off, rfl, World.block_lt_of_cell? W ⟨b, off, none⟩ (by simpa [Addr.add] using (hq 0 hn).1), fun j hj => ?_⟩
    have hj' : j < n := by simpa using hj
    have := hq j hj'
    rw [add_plain, add_plain] at this
    simpa [Nat.add_assoc] using this
end Go.Proofs.Ythakngphffoooaa.Pts
/-
  An argument that is a region, opened: its four numbers, its points, and where they lie. No program here.
-/
namespace Go.Proofs.Ythakngphffoooaa.Rg
open Go.RowKit Go.ChangeShapes Go.WideShapes Go.Deep Go.Proofs.Ythakngphffoooaa.Pts
set_option linter.unusedVariables false

section
variable {H : Type} {enc : TypeId × Value → H} {P : Program} {W : World} {base b0 : Nat} {spare : Nat → Bool} {held : Bool} {r : Reach} {v : Value} {d : DataW H} {p : List MemPlace}
theorem open_pts_cells {t e i : TypeId} {f0 f1 : Field} {fuel : Nat} {cs : List Value} {x : DataW H × List MemPlace}
    (ht : P.underlying t = some (.slice e)) (he : P.underlying e = some (.struct #[f0, f1])) (ce : P.cellsOf e = 2) (o0 : f0.offset = 0) (o1 : f1.offset = 1) (c0 : P.cellsOf f0.type = 1) (c1 : P.cellsOf f1.type = 1)
    (t0 : f0.type = i) (t1 : f1.type = i) (hi : P.underlying i = some (.int .i64)) (hf : DataW.trod enc P W base spare held fuel t cs = some x) :
    ∃ (A : Option Addr) (l : List (Int × Int)) (c : Nat), cs = [.slice A l.length c] ∧ l.length ≤ maxLen ∧ PtsAt W W.heap.size A l := by
  rcases open_slice_pairs ht he ce o0 o1 c0 c1 hf with ⟨rfl, _⟩ | ⟨ad, len, cap, m, k, V0, V1, D0, D1, P0, P1, rfl, _, hl, hm, hmm, _, hc⟩
  · exact ⟨none, [], 0, rfl, Nat.zero_le _, fun h => absurd rfl h⟩
  · have hnm : len ≤ m := by rw [hmm]; split <;> omega
    have each : ∀ j, j < len → ∃ q : Int × Int, W.cell? (ad.add (j * 2)) = some (.int .i64 q.1) ∧ W.cell? (ad.add (j * 2 + 1)) = some (.int .i64 q.2) := by
      intro j hj
      obtain ⟨g0, g1, u0, u1⟩ := hc j (by omega)
      rw [t0] at u0
      rw [t1] at u1
      obtain ⟨x, e0, _, _⟩ := DataW.trod_int hi u0
      obtain ⟨y, e1, _, _⟩ := DataW.trod_int hi u1
      simp at e0 e1
      exact ⟨(x, y), by rw [g0, e0], by rw [g1, e1]⟩
    obtain ⟨q, hq⟩ := choose_lt each
    refine ⟨some ad, (List.range len).map q, cap, by simp, by simp; omega, fun hne => ?_⟩
    have hn : 0 < len := by
      rcases Nat.eq_zero_or_pos len with h | h
      · subst h; exact absurd rfl hne
      · exact h
    have hs : ad.spot = none := World.cell?_spot (by simpa [Addr.add] using (hq 0 hn).1)
    obtain ⟨b, off, s⟩ := ad
    simp at hs
    subst hs
    refine ⟨b, off, rfl, World.block_lt_of_cell? W ⟨b, off, none⟩ (by simpa [Addr.add] using (hq 0 hn).1), fun j hj => ?_⟩
    have hj' : j < len := by simpa using hj
    have := hq j hj'
    rw [add_plain, add_plain] at this
    simpa [Nat.add_assoc] using this
theorem list5 {cs : List Value} (h : cs.length = 5) : ∃ c0 c1 c2 c3 c4, cs = [c0, c1, c2, c3, c4] := by
  match cs, h with
  | [c0, c1, c2, c3, c4], _ => exact ⟨c0, c1, c2, c3, c4, rfl⟩
theorem list4 {cs : List Value} (h : cs.length = 4) : ∃ c0 c1 c2 c3, cs = [c0, c1, c2, c3] := by
  match cs, h with
  | [c0, c1, c2, c3], _ => exact ⟨c0, c1, c2, c3, rfl⟩
/-- A rectangle's four cells. -/
theorem open_rect_cells {t i : TypeId} {f0 f1 f2 f3 : Field} {fuel : Nat} {cs : List Value} {x : DataW H × List MemPlace} (ht : P.underlying t = some (.struct #[f0, f1, f2, f3])) (hc : P.cellsOf t = 4)
    (ho : f0.offset = 0 ∧ f1.offset = 1 ∧ f2.offset = 2 ∧ f3.offset = 3) (h1 : f0.type = i ∧ f1.type = i ∧ f2.type = i ∧ f3.type = i) (ci : P.cellsOf i = 1) (hi : P.underlying i = some (.int .i64))
    (h : DataW.trod enc P W base spare held fuel t cs = some x) : ∃ a b c d : Int, cs = [.int .i64 a, .int .i64 b, .int .i64 c, .int .i64 d] := by
  obtain ⟨xs, n, rfl, _, hl, hlen, hf⟩ := DataW.trod_struct ht h
  obtain ⟨o0, o1, o2, o3⟩ := ho
  obtain ⟨k0, k1, k2, k3⟩ := h1
  obtain ⟨c0, c1, c2, c3, rfl⟩ := list4 (hl.trans hc)
  have hxl : xs.length = 4 := hlen
  have g0 := hf 0 f0 rfl
  have g1 := hf 1 f1 rfl
  have g2 := hf 2 f2 rfl
  have g3 := hf 3 f3 rfl
  rw [List.getElem?_eq_getElem (by omega)] at g0 g1 g2 g3
  rw [o0, k0, ci] at g0
  rw [o1, k1, ci] at g1
  rw [o2, k2, ci] at g2
  rw [o3, k3, ci] at g3
  simp only [List.drop_zero, List.drop_succ_cons, List.take_succ_cons, List.take_zero] at g0 g1 g2 g3
  obtain ⟨n0, j0, _, _⟩ := DataW.trod_int hi g0
  obtain ⟨n1, j1, _, _⟩ := DataW.trod_int hi g1
  obtain ⟨n2, j2, _, _⟩ := DataW.trod_int hi g2
  obtain ⟨n3, j3, _, _⟩ := DataW.trod_int hi g3
  simp only [List.cons.injEq, and_true] at j0 j1 j2 j3
  exact ⟨n0, n1, n2, n3, by rw [j0, j1, j2, j3]⟩
/-- What the program's types are. -/
structure RTypes (P : Program) (tG tR tL tP i : TypeId) (m0 m1 f0 f1 f2 f3 p0 p1 : Field) : Prop where
  reg : P.underlying tG = some (.struct #[m0, m1])
  cells : P.cellsOf tG = 5
  off : m0.offset = 0 ∧ m1.offset = 4
  m : m0.type = tR ∧ m1.type = tL
  lcells : P.cellsOf tL = 1
  rect : P.underlying tR = some (.struct #[f0, f1, f2, f3])
  rcells : P.cellsOf tR = 4
  roff : f0.offset = 0 ∧ f1.offset = 1 ∧ f2.offset = 2 ∧ f3.offset = 3
  rt : f0.type = i ∧ f1.type = i ∧ f2.type = i ∧ f3.type = i
  ic : P.cellsOf i = 1
  int : P.underlying i = some (.int .i64)
  list : P.underlying tL = some (.slice tP)
  pt : P.underlying tP = some (.struct #[p0, p1])
  pcells : P.cellsOf tP = 2
  poff : p0.offset = 0 ∧ p1.offset = 1
  pp : p0.type = i ∧ p1.type = i
variable {tG tR tL tP i : TypeId} {m0 m1 f0 f1 f2 f3 p0 p1 : Field}
/-- A region's five cells. -/
theorem open_region_cells (T : RTypes P tG tR tL tP i m0 m1 f0 f1 f2 f3 p0 p1) {fuel : Nat} {cs : List Value} {x : DataW H × List MemPlace} (h : DataW.trod enc P W base spare held fuel tG cs = some x) :
    ∃ (a b c d : Int) (l : List (Int × Int)) (A : Option Addr) (k : Nat), cs = [.int .i64 a, .int .i64 b, .int .i64 c, .int .i64 d, .slice A l.length k] ∧ l.length ≤ maxLen ∧ PtsAt W W.heap.size A l := by
  obtain ⟨xs, n, rfl, _, hl, hlen, hf⟩ := DataW.trod_struct T.reg h
  obtain ⟨o0, o1⟩ := T.off
  obtain ⟨k0, k1⟩ := T.m
  obtain ⟨c0, c1, c2, c3, c4, rfl⟩ := list5 (hl.trans T.cells)
  have hxl : xs.length = 2 := hlen
  have g0 := hf 0 m0 rfl
  have g1 := hf 1 m1 rfl
  rw [List.getElem?_eq_getElem (by omega)] at g0 g1
  rw [o0, k0, T.rcells] at g0
  rw [o1, k1, T.lcells] at g1
  simp only [List.drop_zero, List.drop_succ_cons, List.take_succ_cons, List.take_zero] at g0 g1
  obtain ⟨a, b, c, d, e0⟩ := open_rect_cells T.rect T.rcells T.roff T.rt T.ic T.int g0
  obtain ⟨A, l, k, e1, hm, hA⟩ := open_pts_cells T.list T.pt T.pcells T.poff.1 T.poff.2 (by rw [T.pp.1]; exact T.ic) (by rw [T.pp.2]; exact T.ic) T.pp.1 T.pp.2 T.int g1
  simp only [List.cons.injEq, and_true] at e0 e1
  obtain ⟨e00, e01, e02, e03⟩ := e0
  exact ⟨a, b, c, d, l, A, k, by rw [e00, e01, e02, e03, e1], hm, hA⟩
theorem open_region (T : RTypes P tG tR tL tP i m0 m1 f0 f1 f2 f3 p0 p1) (hv : Value.okWide P W r b0 tG v) (h : DataW.Trod enc P W base spare held tG v d p) :
    ∃ (a b c d : Int) (l : List (Int × Int)) (A : Option Addr) (k : Nat), v = .agg #[.int .i64 a, .int .i64 b, .int .i64 c, .int .i64 d, .slice A l.length k] ∧ l.length ≤ maxLen ∧ PtsAt W W.heap.size A l := by
  obtain ⟨cs, rfl, hn⟩ := okWide_struct T.reg hv
  obtain ⟨fuel, hf⟩ := h
  obtain ⟨a, b, c, d, l, A, k, e, h1, h2⟩ := open_region_cells T hf
  refine ⟨a, b, c, d, l, A, k, ?_, h1, h2⟩
  congr 1
  apply Array.ext'
  simpa [Value.cells] using e
end
end Go.Proofs.Ythakngphffoooaa.Rg
namespace Go.Proofs.Ythakngphffoooaa.zoneTells
open Go.ChangeShapes Go.WideShapes Go.ChangeAt Go.RowKit Go.Joins
set_option linter.unusedVariables false

theorem own : ownKnob Try.prog.godebug = none := by kernel_rfl
theorem laidOut : laidOutB Try.prog = true := by kernel_rfl

set_option maxHeartbeats 1000000 in
set_option maxRecDepth 100000 in
theorem lifted (os : Os) (started : os.Started) (H : Type) (enc : TypeId × Value → H) :
    ReturnsInHanded {} Try.checked os 3 .any (Rows.zoneTellsSpec.pre6 enc Try.prog Try.f3 Rows.zoneTellsRow.domain false) (Rows.zoneTellsSpec.post enc Try.prog Try.f3 false true false false) := by
  refine returnsInHanded_of_change (C := Try.checked) own started (by kernel_rfl) Try.func3
    (ChangeSpec.witness6 (enc := enc) (C := Try.checked) false ⟨#[], #[.int .i64 0, .agg #[.int .i64 0, .int .i64 0, .int .i64 0, .int .i64 0, .slice none 0 0], .agg #[.int .i64 0, .int .i64 0, .int .i64 0, .int .i64 0], .agg #[.int .i64 0, .int .i64 0]], []⟩ 8 (by kernel_rfl) (by kernel_rfl) (by kernel_rfl) (by kernel_rfl)) ?_
  intro W base args ds gs before hval0 hW hcnd _
  have hval : ∀ (j : Nat) t v, Try.f3.params[j]? = some t → args[j]? = some v → Value.okWide Try.prog W .any base t v := hval0
  have hW' := hW
  obtain ⟨p, q, hA0, hV, rfl, hfz, hnd⟩ := hW
  have hA : DataW.TrodAll enc Try.prog W 0 (fun _ => true) true Try.f3.params.toList args.toList ds p := hA0
  rw [Try.params3] at hA hval
  obtain ⟨v0, vs0, d0, ds0, p0, q0, hargs, rfl, rfl, h0, r0⟩ := trodAll_cons hA
  obtain ⟨v1, vs1, d1, ds1, p1, q1, rfl, rfl, rfl, h1, r1⟩ := trodAll_cons r0
  obtain ⟨v2, vs2, d2, ds2, p2, q2, rfl, rfl, rfl, h2, r2⟩ := trodAll_cons r1
  obtain ⟨v3, vs3, d3, ds3, p3, q3, rfl, rfl, rfl, h3, r3⟩ := trodAll_cons r2
  obtain ⟨rfl, rfl, rfl⟩ := trodAll_nil r3
  obtain rfl : args = #[v0, v1, v2, v3] := by cases args; simp_all
  obtain ⟨rfl, rfl⟩ := trodVars_none hV
  have k0 := h0
  have lt0 : ∀ x ∈ p0, x.block < W.heap.size := by obtain ⟨m, hm⟩ := k0; exact DataW.trod_lt m _ _ _ hm
  obtain ⟨x0_0, rfl⟩ := okWide_int Try.underlying3 (hval 0 3 v0 rfl rfl)
  have k1 := h1
  have lt1 : ∀ x ∈ p1, x.block < W.heap.size := by obtain ⟨m, hm⟩ := k1; exact DataW.trod_lt m _ _ _ hm
  obtain ⟨a1, b1, c1, d1, l1, A1, k1', rfl, hm1, hP1⟩ := Rg.open_region (tG := 26) (tR := 23) (tL := 24) (tP := 28) (i := 2) ⟨Try.underlying26, by kernel_rfl, ⟨rfl, rfl⟩, ⟨rfl, rfl⟩, by kernel_rfl, Try.underlying23, by kernel_rfl, ⟨rfl, rfl, rfl, rfl⟩, ⟨rfl, rfl, rfl, rfl⟩, by kernel_rfl, Try.underlying2, Try.underlying24, Try.underlying28, by kernel_rfl, ⟨rfl, rfl⟩, ⟨rfl, rfl⟩⟩ (hval 1 26 v1 rfl rfl) h1
  have k2 := h2
  have lt2 : ∀ x ∈ p2, x.block < W.heap.size := by obtain ⟨m, hm⟩ := k2; exact DataW.trod_lt m _ _ _ hm
  obtain ⟨x2_0, x2_1, x2_2, x2_3, rfl⟩ : ∃ x2_0 x2_1 x2_2 x2_3 : Int, v2 = .agg #[.int .i64 x2_0, .int .i64 x2_1, .int .i64 x2_2, .int .i64 x2_3] := by
    obtain ⟨c0, c1, c2, c3, z0, z1, z2, z3, m, hv, _, _, hz0, hz1, hz2, hz3⟩ := open_agg4 Try.underlying23 (by kernel_rfl) (by kernel_rfl) (hval 2 23 v2 rfl rfl) h2
    obtain ⟨n0, e0, _, _⟩ := DataW.trod_int Try.underlying2 hz0
    obtain ⟨n1, e1, _, _⟩ := DataW.trod_int Try.underlying2 hz1
    obtain ⟨n2, e2, _, _⟩ := DataW.trod_int Try.underlying2 hz2
    obtain ⟨n3, e3, _, _⟩ := DataW.trod_int Try.underlying2 hz3
    simp at e0 e1 e2 e3
    subst e0 e1 e2 e3
    exact ⟨n0, n1, n2, n3, hv⟩
  have k3 := h3
  have lt3 : ∀ x ∈ p3, x.block < W.heap.size := by obtain ⟨m, hm⟩ := k3; exact DataW.trod_lt m _ _ _ hm
  obtain ⟨x3_0, x3_1, rfl⟩ : ∃ x3_0 x3_1 : Int, v3 = .agg #[.int .i64 x3_0, .int .i64 x3_1] := by
    obtain ⟨c0, c1, z0, z1, m, hv, _, _, hz0, hz1⟩ := open_agg2 Try.underlying28 (by kernel_rfl) (by kernel_rfl) (hval 3 28 v3 rfl rfl) h3
    obtain ⟨n0, e0, _, _⟩ := DataW.trod_int Try.underlying2 hz0
    obtain ⟨n1, e1, _, _⟩ := DataW.trod_int Try.underlying2 hz1
    simp at e0 e1
    subst e0 e1
    exact ⟨n0, n1, hv⟩
  clear hA0 hval0
  refine (Zn.tells_all x0_0 a1 b1 c1 d1 l1 A1 k1' x2_0 x2_1 x2_2 x2_3 (x3_0, x3_1) W hP1 hm1).mono fun e W' ⟨he, bel⟩ => ?_
  subst he
  exact ⟨_, rfl, _, _, _, [], _, [], hW', trodAll_mk1 (shut_bool Try.underlying4 _), (trodAll_cons_mk (Below.trod laidOut (by kernel_rfl) (of_decide_eq_true (by kernel_rfl)) k0 bel lt0) (trodAll_cons_mk (Below.trod laidOut (by kernel_rfl) (of_decide_eq_true (by kernel_rfl)) k1 bel lt1) (trodAll_cons_mk (Below.trod laidOut (by kernel_rfl) (of_decide_eq_true (by kernel_rfl)) k2 bel lt2) (trodAll_cons_mk (Below.trod laidOut (by kernel_rfl) (of_decide_eq_true (by kernel_rfl)) k3 bel lt3) trodAll_mk0)))), rfl, bel.frame _, fun h => by cases h⟩

theorem over : Rows.zoneTellsRow.holds Try.pinned (OpenSpec.ofChange Rows.zoneTellsSpec) :=
  OpenClaim.holds_of_wide 3 Try.f3 rfl rfl rfl rfl rfl rfl rfl ⟨rfl, rfl, rfl, rfl, rfl⟩ rfl rfl rfl rfl rfl (by kernel_rfl) Try.func3 (by kernel_rfl)
    (of_decide_eq_true (by kernel_rfl)) (by unfold Func.isWrapper; first | (rw [if_pos (by decide +kernel)]; kernel_rfl) | (rw [if_neg (by decide +kernel)]; exact ⟨rfl, rfl⟩))
    (fun os started H enc _ => lifted os started H enc)

theorem proved : Rows.ZoneTellsSaid := over
#print axioms proved
end Go.Proofs.Ythakngphffoooaa.zoneTells
