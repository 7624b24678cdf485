/-
  The statement RegionTells holds: whether any region may be, its rectangle, whether any point is in it, and whether it is any other one (P16.1). For every input; no condition.
-/
import Derived.Test.YtiggjaodfmelpaaRows
import Derived.Test.YtiggjaodfmelpaaRgTells
import Derived.Test.YtiggjaodfmelpaaRgOpen
import Derived.WalkKit
import Derived.ProofKit
import Derived.OpenShut
import Derived.ChangeOld
import Derived.Below
import Derived.ChangeSame
import Derived.JoinedOf
import Derived.JoinedAt
import Derived.Lib.SmallJoins
namespace Go.Proofs.Ytiggjaodfmelpaa.regionTells
open Go.ChangeShapes Go.WideShapes Go.ChangeAt Go.RowKit Go.Joins
set_option linter.unusedVariables false

theorem own : ownKnob Try.prog.godebug = none := by kernel_rfl
theorem laidOut : laidOutB Try.prog = true := by kernel_rfl

set_option maxHeartbeats 1000000 in
set_option maxRecDepth 100000 in
theorem lifted (os : Os) (started : os.Started) (H : Type) (enc : TypeId × Value → H) :
    ReturnsInHanded {} Try.checked os 3 .any (Rows.regionTellsSpec.pre6 enc Try.prog Try.f3 Rows.regionTellsRow.domain false) (Rows.regionTellsSpec.post enc Try.prog Try.f3 false true false false) := by
  refine returnsInHanded_of_change (C := Try.checked) own started (by kernel_rfl) Try.func3
    (ChangeSpec.witness6 (enc := enc) (C := Try.checked) false ⟨#[], #[.agg #[.int .i64 0, .int .i64 0, .int .i64 0, .int .i64 0, .slice none 0 0], .agg #[.int .i64 0, .int .i64 0, .int .i64 0, .int .i64 0, .slice none 0 0], .agg #[.int .i64 0, .int .i64 0]], []⟩ 8 (by kernel_rfl) (by kernel_rfl) (by kernel_rfl) (by kernel_rfl)) ?_
  intro W base args ds gs before hval0 hW hcnd _
  have hval : ∀ (j : Nat) t v, Try.f3.params[j]? = some t → args[j]? = some v → Value.okWide Try.prog W .any base t v := hval0
  have hW' := hW
  obtain ⟨p, q, hA0, hV, rfl, hfz, hnd⟩ := hW
  have hA : DataW.TrodAll enc Try.prog W 0 (fun _ => true) true Try.f3.params.toList args.toList ds p := hA0
  rw [Try.params3] at hA hval
  obtain ⟨v0, vs0, d0, ds0, p0, q0, hargs, rfl, rfl, h0, r0⟩ := trodAll_cons hA
  obtain ⟨v1, vs1, d1, ds1, p1, q1, rfl, rfl, rfl, h1, r1⟩ := trodAll_cons r0
  obtain ⟨v2, vs2, d2, ds2, p2, q2, rfl, rfl, rfl, h2, r2⟩ := trodAll_cons r1
  obtain ⟨rfl, rfl, rfl⟩ := trodAll_nil r2
  obtain rfl : args = #[v0, v1, v2] := by cases args; simp_all
  obtain ⟨rfl, rfl⟩ := trodVars_none hV
  have k0 := h0
  have lt0 : ∀ x ∈ p0, x.block < W.heap.size := by obtain ⟨m, hm⟩ := k0; exact DataW.trod_lt m _ _ _ hm
  obtain ⟨a0, b0, c0, d0, l0, A0, k0', rfl, hm0, hP0⟩ := Rg.open_region (tG := 26) (tR := 23) (tL := 24) (tP := 28) (i := 2) ⟨Try.underlying26, by kernel_rfl, ⟨rfl, rfl⟩, ⟨rfl, rfl⟩, by kernel_rfl, Try.underlying23, by kernel_rfl, ⟨rfl, rfl, rfl, rfl⟩, ⟨rfl, rfl, rfl, rfl⟩, by kernel_rfl, Try.underlying2, Try.underlying24, Try.underlying28, by kernel_rfl, ⟨rfl, rfl⟩, ⟨rfl, rfl⟩⟩ (hval 0 26 v0 rfl rfl) h0
  have k1 := h1
  have lt1 : ∀ x ∈ p1, x.block < W.heap.size := by obtain ⟨m, hm⟩ := k1; exact DataW.trod_lt m _ _ _ hm
  obtain ⟨a1, b1, c1, d1, l1, A1, k1', rfl, hm1, hP1⟩ := Rg.open_region (tG := 26) (tR := 23) (tL := 24) (tP := 28) (i := 2) ⟨Try.underlying26, by kernel_rfl, ⟨rfl, rfl⟩, ⟨rfl, rfl⟩, by kernel_rfl, Try.underlying23, by kernel_rfl, ⟨rfl, rfl, rfl, rfl⟩, ⟨rfl, rfl, rfl, rfl⟩, by kernel_rfl, Try.underlying2, Try.underlying24, Try.underlying28, by kernel_rfl, ⟨rfl, rfl⟩, ⟨rfl, rfl⟩⟩ (hval 1 26 v1 rfl rfl) h1
  have k2 := h2
  have lt2 : ∀ x ∈ p2, x.block < W.heap.size := by obtain ⟨m, hm⟩ := k2; exact DataW.trod_lt m _ _ _ hm
  obtain ⟨x2_0, x2_1, rfl⟩ : ∃ x2_0 x2_1 : Int, v2 = .agg #[.int .i64 x2_0, .int .i64 x2_1] := by
    obtain ⟨c0, c1, z0, z1, m, hv, _, _, hz0, hz1⟩ := open_agg2 Try.underlying28 (by kernel_rfl) (by kernel_rfl) (hval 2 28 v2 rfl rfl) h2
    obtain ⟨n0, e0, _, _⟩ := DataW.trod_int Try.underlying2 hz0
    obtain ⟨n1, e1, _, _⟩ := DataW.trod_int Try.underlying2 hz1
    simp at e0 e1
    subst e0 e1
    exact ⟨n0, n1, hv⟩
  clear hA0 hval0
  refine (Rg.tells_all a0 b0 c0 d0 l0 A0 k0' a1 b1 c1 d1 l1 A1 k1' (x2_0, x2_1) W hP0 hP1 hm0 hm1).mono fun e W' ⟨he, bel⟩ => ?_
  subst he
  exact ⟨_, rfl, _, _, _, [], _, [], hW', trodAll_mk1 (shut_bool Try.underlying4 _), (trodAll_cons_mk (Below.trod laidOut (by kernel_rfl) (of_decide_eq_true (by kernel_rfl)) k0 bel lt0) (trodAll_cons_mk (Below.trod laidOut (by kernel_rfl) (of_decide_eq_true (by kernel_rfl)) k1 bel lt1) (trodAll_cons_mk (Below.trod laidOut (by kernel_rfl) (of_decide_eq_true (by kernel_rfl)) k2 bel lt2) trodAll_mk0))), rfl, bel.frame _, fun h => by cases h⟩

theorem over : Rows.regionTellsRow.holds Try.pinned (OpenSpec.ofChange Rows.regionTellsSpec) :=
  OpenClaim.holds_of_wide 3 Try.f3 rfl rfl rfl rfl rfl rfl rfl ⟨rfl, rfl, rfl, rfl, rfl⟩ rfl rfl rfl rfl rfl (by kernel_rfl) Try.func3 (by kernel_rfl)
    (of_decide_eq_true (by kernel_rfl)) (by unfold Func.isWrapper; first | (rw [if_pos (by decide +kernel)]; kernel_rfl) | (rw [if_neg (by decide +kernel)]; exact ⟨rfl, rfl⟩))
    (fun os started H enc _ => lifted os started H enc)

theorem proved : Rows.RegionTellsSaid := over
#print axioms proved
end Go.Proofs.Ytiggjaodfmelpaa.regionTells
