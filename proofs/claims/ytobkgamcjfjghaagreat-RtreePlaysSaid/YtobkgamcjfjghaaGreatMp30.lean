/-
  The statement RtreePlays holds: whatever is done with an index, each answer is the document's, and nothing is amiss with it (P14.1 to P14.3). For every input; no condition.
-/
import Derived.Test.YtobkgamcjfjghaaGreatMp28
import Derived.Deep.Slices
import Derived.Lib.SmallJoins
import Derived.OpenShut
import Derived.WideShapes
import Derived.ChangeArms
import Derived.Test.YtobkgamcjfjghaaGreatRows
import Derived.Test.YtobkgamcjfjghaaGreatMp29
import Derived.WalkKit
import Derived.ProofKit
import Derived.ChangeOld
import Derived.Below
import Derived.ChangeSame
import Derived.JoinedOf
import Derived.JoinedAt
/-
  Arguments that are rectangles, opened. No function of the program here.
-/
namespace Go.Proofs.YtobkgamcjfjghaaGreat.Rt
open Go.RowKit Go.ChangeShapes Go.WideShapes Go.Deep Go.Joins Go.Proofs.YtobkgamcjfjghaaGreat.Rc
set_option linter.unusedVariables false
set_option linter.unusedSectionVars false
instance : Inhabited R4 := ⟨⟨0, 0, 0, 0⟩⟩
theorem cut4 {cs : List Value} (h : cs.length = 4) : ∃ a b c d, cs = [a, b, c, d] := by
  match cs, h with
  | [a, b, c, d], _ => exact ⟨a, b, c, d, rfl⟩
section
variable {H : Type} {enc : TypeId × Value → H} {P : Program} {w : World} {base b0 : Nat} {spare : Nat → Bool} {held : Bool} {r : Reach} {v : Value} {d : DataW H} {p : List MemPlace}
theorem open_elems {t e : TypeId} {c : Nat} {α : Type} [Inhabited α] {Q : Nat → α → List Value → Prop} (ht : P.underlying t = some (.slice e)) (hc : P.cellsOf e = c) {fuel : Nat} {cs : List Value} {x : DataW H × List MemPlace} (h : DataW.trod enc P w base spare held fuel t cs = some x)
    (hQ : ∀ m, m < fuel → ∀ i cs' x', DataW.trod enc P w base spare held m e cs' = some x' → ∃ v, Q i v cs') (h0 : 0 < c) (hQl : ∀ i v cs', Q i v cs' → cs'.length = c) :
    ∃ (l : List α) (a : Option Addr) (cap : Nat), cs = [.slice a l.length cap] ∧ l.length ≤ maxLen ∧ (0 < l.length → ∃ g o, a = some ⟨g, o, none⟩ ∧ g < w.heap.size ∧ ∀ (k : Nat) (hk : k < l.length), ∃ cs', Q k l[k] cs' ∧ ∀ i, i < c → w.cell? ⟨g, o + k * c + i, none⟩ = cs'[i]?) := by
  rcases DataW.trod_slice ht h with ⟨rfl, _⟩ | ⟨a, len, cap, elems, rest, n, rfl, rfl, _, hb, hl, hm, hel, hx, _, _⟩
  · exact ⟨[], none, 0, rfl, Nat.zero_le _, fun h => by simp at h⟩
  · have each : ∀ i, i < len → ∃ v : α, ∃ cs', w.cells? base (a.add (i * c)) c = some cs' ∧ Q i v cs' := by
      intro i hi
      have h1 := hx i hi
      rw [hc, List.getElem?_eq_getElem (by omega)] at h1
      obtain ⟨cs', h2, h3⟩ := Option.bind_eq_some_iff.1 h1
      obtain ⟨v, hv⟩ := hQ n (by omega) i cs' _ h3
      exact ⟨v, cs', h2, hv⟩
    obtain ⟨V, hV⟩ := choose_lt each
    refine ⟨(List.range len).map V, some a, cap, by simp, by simp; omega, fun hp => ?_⟩
    simp only [List.length_map, List.length_range] at hp
    have hs : a.spot = none ∧ a.block < w.heap.size := by
      obtain ⟨cs', h2, h3⟩ := hV 0 hp
      obtain ⟨_, hl2, hc2⟩ := World.cells?_some h2
      have h4 := hc2 0 (by omega)
      rw [List.getElem?_eq_getElem (by omega)] at h4
      simp only [Nat.zero_mul, Addr.add] at h4
      simp only [if_true] at h4
      exact ⟨World.cell?_spot h4, World.block_lt_of_cell? w a h4⟩
    obtain ⟨g, o, s⟩ := a
    obtain ⟨hs1, hs2⟩ := hs
    simp only at hs1
    subst hs1
    refine ⟨g, o, rfl, hs2, fun k hk => ?_⟩
    simp only [List.length_map, List.length_range] at hk
    obtain ⟨cs', h2, h3⟩ := hV k hk
    refine ⟨cs', by simpa using h3, fun i hi => ?_⟩
    have h4 := (World.cells?_some h2).2.2 i hi
    rw [add_plain, add_plain] at h4
    exact h4
end
end Go.Proofs.YtobkgamcjfjghaaGreat.Rt
/-
  Arguments that are deeds, opened. No function of the program here.
-/
namespace Go.Proofs.YtobkgamcjfjghaaGreat.Rt
open Go.RowKit Go.ChangeShapes Go.WideShapes Go.Deep Go.Joins Go.Proofs.YtobkgamcjfjghaaGreat.Rc
set_option linter.unusedVariables false
set_option linter.unusedSectionVars false
instance : Inhabited Ded := ⟨⟨false, default, 0⟩⟩
theorem cut5 {cs : List Value} (h : cs.length = 5) : ∃ a b c d e, cs = [a, b, c, d, e] := by
  match cs, h with
  | [a, b, c, d, e], _ => exact ⟨a, b, c, d, e, rfl⟩
theorem cut6 {cs : List Value} (h : cs.length = 6) : ∃ a b c d e f, cs = [a, b, c, d, e, f] := by
  match cs, h with
  | [a, b, c, d, e, f], _ => exact ⟨a, b, c, d, e, f, rfl⟩
/-- What the program's types are: a deed, an item, a rectangle. -/
structure DTypes (P : Program) (tD tB tI tR i n : TypeId) (d0 d1 m0 m1 f0 f1 f2 f3 : Field) : Prop where
  deed : P.underlying tD = some (.struct #[d0, d1])
  dcells : P.cellsOf tD = 6
  doff : d0.offset = 0 ∧ d1.offset = 1
  dt : d0.type = tB ∧ d1.type = tI
  bool : P.underlying tB = some .bool
  bcells : P.cellsOf tB = 1
  item : P.underlying tI = some (.struct #[m0, m1])
  icells : P.cellsOf tI = 5
  ioff : m0.offset = 0 ∧ m1.offset = 4
  it : m0.type = tR ∧ m1.type = n
  int : P.underlying n = some (.int .i64)
  ncells : P.cellsOf n = 1
  rect : P.underlying tR = some (.struct #[f0, f1, f2, f3])
  rcells : P.cellsOf tR = 4
  roff : f0.offset = 0 ∧ f1.offset = 1 ∧ f2.offset = 2 ∧ f3.offset = 3
  rt : f0.type = i ∧ f1.type = i ∧ f2.type = i ∧ f3.type = i
  ic : P.cellsOf i = 1
  i64 : P.underlying i = some (.int .i64)
section
variable {H : Type} {enc : TypeId × Value → H} {P : Program} {w : World} {base b0 : Nat} {spare : Nat → Bool} {held : Bool} {r : Reach} {v : Value} {d : DataW H} {p : List MemPlace}
variable {tD tB tI tR i n : TypeId} {d0 d1 m0 m1 f0 f1 f2 f3 : Field}
theorem open_rect4 (T : DTypes P tD tB tI tR i n d0 d1 m0 m1 f0 f1 f2 f3) {fuel : Nat} {cs : List Value} {x : DataW H × List MemPlace} (h : DataW.trod enc P w base spare held fuel tR cs = some x) : ∃ a b c e : Int, cs = [.int .i64 a, .int .i64 b, .int .i64 c, .int .i64 e] := by
  obtain ⟨xs, n, rfl, _, hl, hlen, hf⟩ := DataW.trod_struct T.rect h
  obtain ⟨o0, o1, o2, o3⟩ := T.roff
  obtain ⟨k0, k1, k2, k3⟩ := T.rt
  obtain ⟨c0, c1, c2, c3, rfl⟩ := cut4 (hl.trans T.rcells)
  have hxl : xs.length = 4 := hlen
  have g0 := hf 0 f0 rfl
  have g1 := hf 1 f1 rfl
  have g2 := hf 2 f2 rfl
  have g3 := hf 3 f3 rfl
  rw [List.getElem?_eq_getElem (by omega)] at g0 g1 g2 g3
  rw [o0, k0, T.ic] at g0
  rw [o1, k1, T.ic] at g1
  rw [o2, k2, T.ic] at g2
  rw [o3, k3, T.ic] at g3
  simp only [List.drop_zero, List.drop_succ_cons, List.take_succ_cons, List.take_zero] at g0 g1 g2 g3
  obtain ⟨n0, j0, _, _⟩ := DataW.trod_int T.i64 g0
  obtain ⟨n1, j1, _, _⟩ := DataW.trod_int T.i64 g1
  obtain ⟨n2, j2, _, _⟩ := DataW.trod_int T.i64 g2
  obtain ⟨n3, j3, _, _⟩ := DataW.trod_int T.i64 g3
  simp only [List.cons.injEq, and_true] at j0 j1 j2 j3
  exact ⟨n0, n1, n2, n3, by rw [j0, j1, j2, j3]⟩
theorem open_item5 (T : DTypes P tD tB tI tR i n d0 d1 m0 m1 f0 f1 f2 f3) {fuel : Nat} {cs : List Value} {x : DataW H × List MemPlace} (h : DataW.trod enc P w base spare held fuel tI cs = some x) : ∃ a b c e k : Int, cs = [.int .i64 a, .int .i64 b, .int .i64 c, .int .i64 e, .int .i64 k] ∧ wf64 k := by
  obtain ⟨xs, n, rfl, _, hl, hlen, hf⟩ := DataW.trod_struct T.item h
  obtain ⟨o0, o1⟩ := T.ioff
  obtain ⟨k0, k1⟩ := T.it
  obtain ⟨c0, c1, c2, c3, c4, rfl⟩ := cut5 (hl.trans T.icells)
  have hxl : xs.length = 2 := hlen
  have g0 := hf 0 m0 rfl
  have g1 := hf 1 m1 rfl
  rw [List.getElem?_eq_getElem (by omega)] at g0 g1
  rw [o0, k0, T.rcells] at g0
  rw [o1, k1, T.ncells] at g1
  simp only [List.drop_zero, List.drop_succ_cons, List.take_succ_cons, List.take_zero] at g0 g1
  obtain ⟨a, b, c, e, e0⟩ := open_rect4 T g0
  obtain ⟨k, e1, _, z1⟩ := DataW.trod_int T.int g1
  simp only [List.cons.injEq, and_true] at e0 e1
  obtain ⟨e00, e01, e02, e03⟩ := e0
  exact ⟨a, b, c, e, k, by rw [e00, e01, e02, e03, e1], bounds_i64 z1⟩
theorem open_deed6 (T : DTypes P tD tB tI tR i n d0 d1 m0 m1 f0 f1 f2 f3) {fuel : Nat} {cs : List Value} {x : DataW H × List MemPlace} (h : DataW.trod enc P w base spare held fuel tD cs = some x) :
    ∃ d : Ded, cs = [.bool d.del, .int .i64 d.r.x1, .int .i64 d.r.y1, .int .i64 d.r.x2, .int .i64 d.r.y2, .int .i64 d.id] ∧ wf64 d.id := by
  obtain ⟨xs, n, rfl, _, hl, hlen, hf⟩ := DataW.trod_struct T.deed h
  obtain ⟨o0, o1⟩ := T.doff
  obtain ⟨k0, k1⟩ := T.dt
  obtain ⟨c0, c1, c2, c3, c4, c5, rfl⟩ := cut6 (hl.trans T.dcells)
  have hxl : xs.length = 2 := hlen
  have g0 := hf 0 d0 rfl
  have g1 := hf 1 d1 rfl
  rw [List.getElem?_eq_getElem (by omega)] at g0 g1
  rw [o0, k0, T.bcells] at g0
  rw [o1, k1, T.icells] at g1
  simp only [List.drop_zero, List.drop_succ_cons, List.take_succ_cons, List.take_zero] at g0 g1
  obtain ⟨b, e0, _⟩ := DataW.trod_bool T.bool g0
  obtain ⟨a1, a2, a3, a4, k, e1, hk⟩ := open_item5 T g1
  simp only [List.cons.injEq, and_true] at e0 e1
  obtain ⟨e10, e11, e12, e13, e14⟩ := e1
  exact ⟨⟨b, ⟨a1, a2, a3, a4⟩, k⟩, by rw [e0, e10, e11, e12, e13, e14], hk⟩
theorem open_deeds {t : TypeId} (ht : P.underlying t = some (.slice tD)) (T : DTypes P tD tB tI tR i n d0 d1 m0 m1 f0 f1 f2 f3)
    (hv : Value.okWide P w r b0 t v) (h : DataW.Trod enc P w base spare held t v d p) :
    ∃ (A : Option Addr) (l : List Ded) (c : Nat), v = .slice A l.length c ∧ l.length ≤ maxLen ∧ DdL w A l := by
  obtain ⟨x, n, c, rfl⟩ := okWide_slice ht hv
  obtain ⟨fuel, hf⟩ := h
  obtain ⟨l, a, c', e1, hm, hq⟩ := open_elems (α := Ded) (Q := fun _ v cs' => cs' = [.bool v.del, .int .i64 v.r.x1, .int .i64 v.r.y1, .int .i64 v.r.x2, .int .i64 v.r.y2, .int .i64 v.id] ∧ wf64 v.id) ht T.dcells hf (fun m _ i' cs' x' h' => open_deed6 T h') (by omega) (fun i v cs' hq => by rw [hq.1]; rfl)
  simp [Value.cells] at e1
  obtain ⟨rfl, rfl, rfl⟩ := e1
  refine ⟨x, l, c, rfl, hm, fun d hd => ?_, fun h0 => ?_⟩
  · obtain ⟨k, hk, rfl⟩ := List.mem_iff_getElem.1 hd
    obtain ⟨g, o, e, hg, hq⟩ := hq (by omega)
    obtain ⟨cs', ⟨_, h2⟩, _⟩ := hq k hk
    exact h2
  · obtain ⟨g, o, e, hg, hq⟩ := hq h0
    refine ⟨g, o, e, hg, fun k hk => ?_⟩
    obtain ⟨cs', ⟨rfl, _⟩, h3⟩ := hq k hk
    exact ⟨h3 0 (by omega), h3 1 (by omega), h3 2 (by omega), h3 3 (by omega), h3 4 (by omega), h3 5 (by omega)⟩
end
end Go.Proofs.YtobkgamcjfjghaaGreat.Rt
namespace Go.Proofs.YtobkgamcjfjghaaGreat.rtreePlays
open Go.ChangeShapes Go.WideShapes Go.ChangeAt Go.RowKit Go.Joins
set_option linter.unusedVariables false

theorem own : ownKnob Tryz.prog.godebug = none := by kernel_rfl
theorem laidOut : laidOutB Tryz.prog = true := by kernel_rfl

set_option maxHeartbeats 1000000 in
set_option maxRecDepth 100000 in
theorem lifted (os : Os) (started : os.Started) (H : Type) (enc : TypeId × Value → H) :
    ReturnsInHanded {} Tryz.checked os 3 .any (Rows.rtreePlaysSpec.pre6 enc Tryz.prog Tryz.f3 Rows.rtreePlaysRow.domain false) (Rows.rtreePlaysSpec.post enc Tryz.prog Tryz.f3 false true false false) := by
  refine returnsInHanded_of_change (C := Tryz.checked) own started (by kernel_rfl) Tryz.func3
    (ChangeSpec.witness6 (enc := enc) (C := Tryz.checked) false ⟨#[], #[.int .i64 0, .slice none 0 0, .agg #[.int .i64 0, .int .i64 0], .agg #[.int .i64 0, .int .i64 0, .int .i64 0, .int .i64 0]], []⟩ 8 (by kernel_rfl) (by kernel_rfl) (by kernel_rfl) (by kernel_rfl)) ?_
  intro W base args ds gs before hval0 hW hcnd _
  have hval : ∀ (j : Nat) t v, Tryz.f3.params[j]? = some t → args[j]? = some v → Value.okWide Tryz.prog W .any base t v := hval0
  have hW' := hW
  obtain ⟨p, q, hA0, hV, rfl, hfz, hnd⟩ := hW
  have hA : DataW.TrodAll enc Tryz.prog W 0 (fun _ => true) true Tryz.f3.params.toList args.toList ds p := hA0
  rw [Tryz.params3] at hA hval
  obtain ⟨v0, vs0, d0, ds0, p0, q0, hargs, rfl, rfl, h0, r0⟩ := trodAll_cons hA
  obtain ⟨v1, vs1, d1, ds1, p1, q1, rfl, rfl, rfl, h1, r1⟩ := trodAll_cons r0
  obtain ⟨v2, vs2, d2, ds2, p2, q2, rfl, rfl, rfl, h2, r2⟩ := trodAll_cons r1
  obtain ⟨v3, vs3, d3, ds3, p3, q3, rfl, rfl, rfl, h3, r3⟩ := trodAll_cons r2
  obtain ⟨rfl, rfl, rfl⟩ := trodAll_nil r3
  obtain rfl : args = #[v0, v1, v2, v3] := by cases args; simp_all
  obtain ⟨rfl, rfl⟩ := trodVars_none hV
  have k0 := h0
  have lt0 : ∀ x ∈ p0, x.block < W.heap.size := by obtain ⟨m, hm⟩ := k0; exact DataW.trod_lt m _ _ _ hm
  obtain ⟨x0_0, rfl⟩ := okWide_int Tryz.underlying3 (hval 0 3 v0 rfl rfl)
  have k1 := h1
  have lt1 : ∀ x ∈ p1, x.block < W.heap.size := by obtain ⟨m, hm⟩ := k1; exact DataW.trod_lt m _ _ _ hm
  obtain ⟨A1, l1, c1, rfl, hm1, hD1⟩ := Rt.open_deeds (tD := 38) (tB := 4) (tI := 36) (tR := 26) (i := 2) (n := 3) Tryz.underlying22 ⟨Tryz.underlying38, by kernel_rfl, ⟨rfl, rfl⟩, ⟨rfl, rfl⟩, Tryz.underlying4, by kernel_rfl, Tryz.underlying36, by kernel_rfl, ⟨rfl, rfl⟩, ⟨rfl, rfl⟩, Tryz.underlying3, by kernel_rfl, Tryz.underlying26, by kernel_rfl, ⟨rfl, rfl, rfl, rfl⟩, ⟨rfl, rfl, rfl, rfl⟩, by kernel_rfl, Tryz.underlying2⟩ (hval 1 22 v1 rfl rfl) h1
  have k2 := h2
  have lt2 : ∀ x ∈ p2, x.block < W.heap.size := by obtain ⟨m, hm⟩ := k2; exact DataW.trod_lt m _ _ _ hm
  obtain ⟨x2_0, x2_1, rfl⟩ : ∃ x2_0 x2_1 : Int, v2 = .agg #[.int .i64 x2_0, .int .i64 x2_1] := by
    obtain ⟨c0, c1, z0, z1, m, hv, _, _, hz0, hz1⟩ := open_agg2 Tryz.underlying24 (by kernel_rfl) (by kernel_rfl) (hval 2 24 v2 rfl rfl) h2
    obtain ⟨n0, e0, _, _⟩ := DataW.trod_int Tryz.underlying2 hz0
    obtain ⟨n1, e1, _, _⟩ := DataW.trod_int Tryz.underlying2 hz1
    simp at e0 e1
    subst e0 e1
    exact ⟨n0, n1, hv⟩
  have k3 := h3
  have lt3 : ∀ x ∈ p3, x.block < W.heap.size := by obtain ⟨m, hm⟩ := k3; exact DataW.trod_lt m _ _ _ hm
  obtain ⟨x3_0, x3_1, x3_2, x3_3, rfl⟩ : ∃ x3_0 x3_1 x3_2 x3_3 : Int, v3 = .agg #[.int .i64 x3_0, .int .i64 x3_1, .int .i64 x3_2, .int .i64 x3_3] := by
    obtain ⟨c0, c1, c2, c3, z0, z1, z2, z3, m, hv, _, _, hz0, hz1, hz2, hz3⟩ := open_agg4 Tryz.underlying26 (by kernel_rfl) (by kernel_rfl) (hval 3 26 v3 rfl rfl) h3
    obtain ⟨n0, e0, _, _⟩ := DataW.trod_int Tryz.underlying2 hz0
    obtain ⟨n1, e1, _, _⟩ := DataW.trod_int Tryz.underlying2 hz1
    obtain ⟨n2, e2, _, _⟩ := DataW.trod_int Tryz.underlying2 hz2
    obtain ⟨n3, e3, _, _⟩ := DataW.trod_int Tryz.underlying2 hz3
    simp at e0 e1 e2 e3
    subst e0 e1 e2 e3
    exact ⟨n0, n1, n2, n3, hv⟩
  clear hA0 hval0
  refine (Rt.plays_any x0_0 A1 l1 c1 x2_0 x2_1 ⟨x3_0, x3_1, x3_2, x3_3⟩ W hm1 hD1).mono fun e W' ⟨he, bel⟩ => ?_
  subst he
  exact ⟨_, rfl, _, _, _, [], _, [], hW', trodAll_mk1 (shut_bool Tryz.underlying4 _), (trodAll_cons_mk (Below.trod laidOut (by kernel_rfl) (of_decide_eq_true (by kernel_rfl)) k0 bel lt0) (trodAll_cons_mk (Below.trod laidOut (by kernel_rfl) (of_decide_eq_true (by kernel_rfl)) k1 bel lt1) (trodAll_cons_mk (Below.trod laidOut (by kernel_rfl) (of_decide_eq_true (by kernel_rfl)) k2 bel lt2) (trodAll_cons_mk (Below.trod laidOut (by kernel_rfl) (of_decide_eq_true (by kernel_rfl)) k3 bel lt3) trodAll_mk0)))), rfl, bel.frame _, fun h => by cases h⟩

theorem over : Rows.rtreePlaysRow.holds Tryz.pinned (OpenSpec.ofChange Rows.rtreePlaysSpec) :=
  OpenClaim.holds_of_wide 3 Tryz.f3 rfl rfl rfl rfl rfl rfl rfl ⟨rfl, rfl, rfl, rfl, rfl⟩ rfl rfl rfl rfl rfl (by kernel_rfl) Tryz.func3 (by kernel_rfl)
    (of_decide_eq_true (by kernel_rfl)) (by unfold Func.isWrapper; first | (rw [if_pos (by decide +kernel)]; kernel_rfl) | (rw [if_neg (by decide +kernel)]; exact ⟨rfl, rfl⟩))
    (fun os started H enc _ => lifted os started H enc)

theorem proved : Rows.RtreePlaysSaid := over
#print axioms proved
end Go.Proofs.YtobkgamcjfjghaaGreat.rtreePlays
