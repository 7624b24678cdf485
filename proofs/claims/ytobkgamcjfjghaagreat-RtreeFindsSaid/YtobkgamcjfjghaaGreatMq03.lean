/-
  The statement RtreeFinds holds: what was put is found at each of its corners, till it is deleted; nothing else is; emptied there is one node (P14.4). For every input; no condition.
-/
import Derived.Test.YtobkgamcjfjghaaGreatMq01
import Derived.Deep.Slices
import Derived.Lib.SmallJoins
import Derived.OpenShut
import Derived.WideShapes
import Derived.ChangeArms
import Derived.Test.YtobkgamcjfjghaaGreatRows
import Derived.Test.YtobkgamcjfjghaaGreatMq02
import Derived.WalkKit
import Derived.ProofKit
import Derived.ChangeOld
import Derived.Below
import Derived.ChangeSame
import Derived.JoinedOf
import Derived.JoinedAt
/-
  Arguments that are rectangles, opened. No function of the program here.
-/
namespace Go.Proofs.YtobkgamcjfjghaaGreat.Rt
open Go.RowKit Go.ChangeShapes Go.WideShapes Go.Deep Go.Joins Go.Proofs.YtobkgamcjfjghaaGreat.Rc
set_option linter.unusedVariables false
set_option linter.unusedSectionVars false
instance : Inhabited R4 := ⟨⟨0, 0, 0, 0⟩⟩
theorem cut4 {cs : List Value} (h : cs.length = 4) : ∃ a b c d, cs = [a, b, c, d] := by
  match cs, h with
  | [a, b, c, d], _ => exact ⟨a, b, c, d, rfl⟩
section
variable {H : Type} {enc : TypeId × Value → H} {P : Program} {w : World} {base b0 : Nat} {spare : Nat → Bool} {held : Bool} {r : Reach} {v : Value} {d : DataW H} {p : List MemPlace}
theorem open_elems {t e : TypeId} {c : Nat} {α : Type} [Inhabited α] {Q : Nat → α → List Value → Prop} (ht : P.underlying t = some (.slice e)) (hc : P.cellsOf e = c) {fuel : Nat} {cs : List Value} {x : DataW H × List MemPlace} (h : DataW.trod enc P w base spare held fuel t cs = some x)
    (hQ : ∀ m, m < fuel → ∀ i cs' x', DataW.trod enc P w base spare held m e cs' = some x' → ∃ v, Q i v cs') (h0 : 0 < c) (hQl : ∀ i v cs', Q i v cs' → cs'.length = c) :
    ∃ (l : List α) (a : Option Addr) (cap : Nat), cs = [.slice a l.length cap] ∧ l.length ≤ maxLen ∧ (0 < l.length → ∃ g o, a = some ⟨g, o, none⟩ ∧ g < w.heap.size ∧ ∀ (k : Nat) (hk : k < l.length), ∃ cs', Q k l[k] cs' ∧ ∀ i, i < c → w.cell? ⟨g, o + k * c + i, none⟩ = cs'[i]?) := by
  rcases DataW.trod_slice ht h with ⟨rfl, _⟩ | ⟨a, len, cap, elems, rest, n, rfl, rfl, _, hb, hl, hm, hel, hx, _, _⟩
  · exact ⟨[], none, 0, rfl, Nat.zero_le _, fun h => by simp at h⟩
  · have each : ∀ i, i < len → ∃ v : α, ∃ cs', w.cells? base (a.add (i * c)) c = some cs' ∧ Q i v cs' := by
      intro i hi
      have h1 := hx i hi
      rw [hc, List.getElem?_eq_getElem (by omega)] at h1
      obtain ⟨cs', h2, h3⟩ := Option.bind_eq_some_iff.1 h1
      obtain ⟨v, hv⟩ := hQ n (by omega) i cs' _ h3
      exact ⟨v, cs', h2, hv⟩
    obtain ⟨V, hV⟩ := choose_lt each
    refine ⟨(List.range len).map V, some a, cap, by simp, by simp; omega, fun hp => ?_⟩
    simp only [List.length_map, List.length_range] at hp
    have hs : a.spot = none ∧ a.block < w.heap.size := by
      obtain ⟨cs', h2, h3⟩ := hV 0 hp
      obtain ⟨_, hl2, hc2⟩ := World.cells?_some h2
      have h4 := hc2 0 (by omega)
      rw [List.getElem?_eq_getElem (by omega)] at h4
      simp only [Nat.zero_mul, Addr.add] at h4
      simp only [if_true] at h4
      exact ⟨World.cell?_spot h4, World.block_lt_of_cell? w a h4⟩
    obtain ⟨g, o, s⟩ := a
    obtain ⟨hs1, hs2⟩ := hs
    simp only at hs1
    subst hs1
    refine ⟨g, o, rfl, hs2, fun k hk => ?_⟩
    simp only [List.length_map, List.length_range] at hk
    obtain ⟨cs', h2, h3⟩ := hV k hk
    refine ⟨cs', by simpa using h3, fun i hi => ?_⟩
    have h4 := (World.cells?_some h2).2.2 i hi
    rw [add_plain, add_plain] at h4
    exact h4
theorem open_rcs {t e i : TypeId} {f0 f1 f2 f3 : Field} (ht : P.underlying t = some (.slice e)) (he : P.underlying e = some (.struct #[f0, f1, f2, f3])) (ce : P.cellsOf e = 4) (one : oneCellFields P #[f0, f1, f2, f3] = true)
    (t0 : f0.type = i) (t1 : f1.type = i) (t2 : f2.type = i) (t3 : f3.type = i) (hi : P.underlying i = some (.int .i64)) (hv : Value.okWide P w r b0 t v) (h : DataW.Trod enc P w base spare held t v d p) :
    ∃ (A : Option Addr) (l : List R4) (c : Nat), v = .slice A l.length c ∧ l.length ≤ maxLen ∧ RcL w A l := by
  obtain ⟨x, n, c, rfl⟩ := okWide_slice ht hv
  obtain ⟨fuel, hf⟩ := h
  obtain ⟨l, a, c', e1, hm, hq⟩ := open_elems (α := R4) (Q := fun _ v cs' => cs' = [.int .i64 v.x1, .int .i64 v.y1, .int .i64 v.x2, .int .i64 v.y2]) ht ce hf (fun m _ i' cs' x' h' => by
    obtain ⟨y0, y1, y2, y3, n, _, hl, h0, h1, h2, h3⟩ := trod_struct4 he h'
    obtain ⟨o0, k0⟩ := hone_of one 0 f0 rfl
    obtain ⟨o1, k1⟩ := hone_of one 1 f1 rfl
    obtain ⟨o2, k2⟩ := hone_of one 2 f2 rfl
    obtain ⟨o3, k3⟩ := hone_of one 3 f3 rfl
    obtain ⟨c0, c1, c2, c3, rfl⟩ := cut4 (hl.trans ce)
    rw [t0] at h0 k0
    rw [t1] at h1 k1
    rw [t2] at h2 k2
    rw [t3] at h3 k3
    obtain ⟨n0, e0, _, z0⟩ := DataW.trod_int hi h0
    obtain ⟨n1, e1, _, z1⟩ := DataW.trod_int hi h1
    obtain ⟨n2, e2, _, z2⟩ := DataW.trod_int hi h2
    obtain ⟨n3, e3, _, z3⟩ := DataW.trod_int hi h3
    simp [o0, k0] at e0
    simp [o1, k1] at e1
    simp [o2, k2] at e2
    simp [o3, k3] at e3
    subst e0 e1 e2 e3
    exact ⟨⟨n0, n1, n2, n3⟩, rfl⟩) (by omega) (fun i v cs' hq => by rw [hq]; rfl)
  simp [Value.cells] at e1
  obtain ⟨rfl, rfl, rfl⟩ := e1
  refine ⟨x, l, c, rfl, hm, fun h0 => ?_⟩
  obtain ⟨g, o, e, hg, hq⟩ := hq h0
  refine ⟨g, o, e, hg, fun k hk => ?_⟩
  obtain ⟨cs', rfl, h3⟩ := hq k hk
  exact ⟨h3 0 (by omega), h3 1 (by omega), h3 2 (by omega), h3 3 (by omega)⟩
end
end Go.Proofs.YtobkgamcjfjghaaGreat.Rt
namespace Go.Proofs.YtobkgamcjfjghaaGreat.rtreeFinds
open Go.ChangeShapes Go.WideShapes Go.ChangeAt Go.RowKit Go.Joins
set_option linter.unusedVariables false

theorem own : ownKnob Tryz.prog.godebug = none := by kernel_rfl
theorem laidOut : laidOutB Tryz.prog = true := by kernel_rfl

set_option maxHeartbeats 1000000 in
set_option maxRecDepth 100000 in
theorem lifted (os : Os) (started : os.Started) (H : Type) (enc : TypeId × Value → H) :
    ReturnsInHanded {} Tryz.checked os 4 .any (Rows.rtreeFindsSpec.pre6 enc Tryz.prog Tryz.f4 Rows.rtreeFindsRow.domain false) (Rows.rtreeFindsSpec.post enc Tryz.prog Tryz.f4 false true false false) := by
  refine returnsInHanded_of_change (C := Tryz.checked) own started (by kernel_rfl) Tryz.func4
    (ChangeSpec.witness6 (enc := enc) (C := Tryz.checked) false ⟨#[], #[.int .i64 0, .slice none 0 0, .int .i64 0], []⟩ 8 (by kernel_rfl) (by kernel_rfl) (by kernel_rfl) (by kernel_rfl)) ?_
  intro W base args ds gs before hval0 hW hcnd _
  have hval : ∀ (j : Nat) t v, Tryz.f4.params[j]? = some t → args[j]? = some v → Value.okWide Tryz.prog W .any base t v := hval0
  have hW' := hW
  obtain ⟨p, q, hA0, hV, rfl, hfz, hnd⟩ := hW
  have hA : DataW.TrodAll enc Tryz.prog W 0 (fun _ => true) true Tryz.f4.params.toList args.toList ds p := hA0
  rw [Tryz.params4] at hA hval
  obtain ⟨v0, vs0, d0, ds0, p0, q0, hargs, rfl, rfl, h0, r0⟩ := trodAll_cons hA
  obtain ⟨v1, vs1, d1, ds1, p1, q1, rfl, rfl, rfl, h1, r1⟩ := trodAll_cons r0
  obtain ⟨v2, vs2, d2, ds2, p2, q2, rfl, rfl, rfl, h2, r2⟩ := trodAll_cons r1
  obtain ⟨rfl, rfl, rfl⟩ := trodAll_nil r2
  obtain rfl : args = #[v0, v1, v2] := by cases args; simp_all
  obtain ⟨rfl, rfl⟩ := trodVars_none hV
  have k0 := h0
  have lt0 : ∀ x ∈ p0, x.block < W.heap.size := by obtain ⟨m, hm⟩ := k0; exact DataW.trod_lt m _ _ _ hm
  obtain ⟨x0_0, rfl⟩ := okWide_int Tryz.underlying3 (hval 0 3 v0 rfl rfl)
  have k1 := h1
  have lt1 : ∀ x ∈ p1, x.block < W.heap.size := by obtain ⟨m, hm⟩ := k1; exact DataW.trod_lt m _ _ _ hm
  obtain ⟨A1, l1, c1, rfl, hm1, hP1⟩ := Rt.open_rcs Tryz.underlying55 Tryz.underlying26 (by kernel_rfl) (by kernel_rfl) rfl rfl rfl rfl Tryz.underlying2 (hval 1 55 v1 rfl rfl) h1
  have k2 := h2
  have lt2 : ∀ x ∈ p2, x.block < W.heap.size := by obtain ⟨m, hm⟩ := k2; exact DataW.trod_lt m _ _ _ hm
  obtain ⟨x2_0, rfl⟩ := okWide_int Tryz.underlying3 (hval 2 3 v2 rfl rfl)
  clear hA0 hval0
  refine (Rt.finds_any x0_0 A1 l1 c1 x2_0 W hm1 hP1).mono fun e W' ⟨he, bel⟩ => ?_
  subst he
  exact ⟨_, rfl, _, _, _, [], _, [], hW', trodAll_mk1 (shut_bool Tryz.underlying4 _), (trodAll_cons_mk (Below.trod laidOut (by kernel_rfl) (of_decide_eq_true (by kernel_rfl)) k0 bel lt0) (trodAll_cons_mk (Below.trod laidOut (by kernel_rfl) (of_decide_eq_true (by kernel_rfl)) k1 bel lt1) (trodAll_cons_mk (Below.trod laidOut (by kernel_rfl) (of_decide_eq_true (by kernel_rfl)) k2 bel lt2) trodAll_mk0))), rfl, bel.frame _, fun h => by cases h⟩

theorem over : Rows.rtreeFindsRow.holds Tryz.pinned (OpenSpec.ofChange Rows.rtreeFindsSpec) :=
  OpenClaim.holds_of_wide 4 Tryz.f4 rfl rfl rfl rfl rfl rfl rfl ⟨rfl, rfl, rfl, rfl, rfl⟩ rfl rfl rfl rfl rfl (by kernel_rfl) Tryz.func4 (by kernel_rfl)
    (of_decide_eq_true (by kernel_rfl)) (by unfold Func.isWrapper; first | (rw [if_pos (by decide +kernel)]; kernel_rfl) | (rw [if_neg (by decide +kernel)]; exact ⟨rfl, rfl⟩))
    (fun os started H enc _ => lifted os started H enc)

theorem proved : Rows.RtreeFindsSaid := over
#print axioms proved
end Go.Proofs.YtobkgamcjfjghaaGreat.rtreeFinds
