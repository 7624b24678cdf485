/-
  The statement RtreeFull holds: an index that has as many items as there may be takes no more (P14.1). For every input; no condition.
-/
import Derived.Test.YtobkgamcjfjghaaGreatMf30
import Derived.Test.YtobkgamcjfjghaaGreatMf02
import Derived.Test.YtobkgamcjfjghaaGreatRows
import Derived.WalkKit
import Derived.ProofKit
import Derived.OpenShut
import Derived.ChangeOld
import Derived.Below
import Derived.ChangeSame
import Derived.JoinedOf
import Derived.JoinedAt
import Derived.Lib.SmallJoins
/-
  The walk of the statement RtreeFull: whatever order and rectangle it is given, it returns true, and memory that was there is left as it was.
-/
namespace Go.Proofs.YtobkgamcjfjghaaGreat.Rt
open Go.RowKit Go.Joins Go.Maps Go.Proofs.YtobkgamcjfjghaaGreat.Pt Go.Proofs.YtobkgamcjfjghaaGreat.Rc Go.Proofs.YtobkgamcjfjghaaGreat.Rs
set_option linter.unusedVariables false
set_option linter.unusedSimpArgs false
set_option maxHeartbeats 4000000
set_option maxRecDepth 100000
theorem tree_nil (w : World) : (binOp .eql 28 (.pointer none) (.pointer none)).run Tryz.prog w = .ok (.bool true) w := by kernel_rfl
theorem tree_nnil (w : World) : (binOp .neq 28 (.pointer none) (.pointer none)).run Tryz.prog w = .ok (.bool false) w := by kernel_rfl
theorem tree_nsome (a : Nat) (w : World) : (binOp .neq 28 (.pointer (some ⟨a, 0, none⟩)) (.pointer none)).run Tryz.prog w = .ok (.bool true) w := by kernel_rfl
theorem eql_argn (w : World) : (binOp .eql 30 (.iface 33 (.int .i64 1)) .nilIface).run Tryz.prog w = .ok (.bool false) w := by kernel_rfl
theorem eql_full (w : World) : (binOp .eql 30 (.iface 33 (.int .i64 8)) (.iface 33 (.int .i64 8))).run Tryz.prog w = .ok (.bool true) w := by kernel_rfl
theorem eql_twice (w : World) : (binOp .eql 30 (.iface 33 (.int .i64 10)) (.iface 33 (.int .i64 10))).run Tryz.prog w = .ok (.bool true) w := by kernel_rfl
theorem eql_bo (b : Bool) (w : World) : (binOp .eql 4 (.bool b) (.bool b)).run Tryz.prog w = .ok (.bool true) w := by cases b <;> kernel_rfl
theorem Ix.down {z z' t o : Nat} {l : List (R4 × Int)} {W : World} (h : Ix z t o l W) (hz : z' ≤ z) : Ix z' t o l W := by
  obtain ⟨mb, σ, V, root, hh, M, G, x, h1, h2, h3, h4, h5, h6⟩ := h
  exact ⟨mb, σ, V, root, hh, M, G, x, Nat.le_trans hz h1, Nat.le_trans hz h2, fun k hk => Nat.le_trans hz (h3 k hk), Nat.le_trans hz h4, h5, h6⟩
theorem Ix.perm {z t o : Nat} {l l' : List (R4 × Int)} {W : World} (h : Ix z t o l W) (hp : l.Perm l') : Ix z t o l' W := by
  obtain ⟨mb, σ, V, root, hh, M, G, x, h1, h2, h3, h4, h5, h6⟩ := h
  exact ⟨mb, σ, V, root, hh, M, G, x, h1, h2, h3, h4, h5.trans hp, fun p hp' => h6 p ((hp.mem_iff).2 hp')⟩
def IxNew (o : Int) (W : World) (e : Ending) (w' : World) : Prop :=
  Below W.heap.size W w' ∧ (((o < 4 ∨ 16 < o) ∧ e = .returned (.tuple #[.pointer none, .iface 33 (.int .i64 1)])) ∨
    ∃ n t : Nat, (n : Int) = o ∧ 4 ≤ n ∧ n ≤ 16 ∧ e = .returned (.tuple #[ptr t, .nilIface]) ∧ Ix W.heap.size t n [] w')
theorem ix_new (o : Int) (W : World) : Calls Tryz.prog 7 #[.int .i64 o] W (IxNew o W) := by
  refine Calls.mono (newT_any o W) ?_
  rintro e w' (⟨h1, h2, rfl⟩ | ⟨n, t, mb, root, σ, V, hn, h1, h2, rfl, ht, hm, hf, hb, x⟩)
  · exact ⟨Below.refl _ _, Or.inl ⟨h1, h2⟩⟩
  · exact ⟨hb, Or.inr ⟨n, t, hn, h1, h2, rfl, mb, σ, V, root, 0, _, [], x, ht, hm, hf, hb.size, List.Perm.refl _, fun p hp => by cases hp⟩⟩
def fuX (j : Nat) : Int := ((j * 37 % 2000 : Nat) : Int) - 1000
def fuI (j : Nat) : R4 × Int := (⟨fuX j, j, fuX j + 3, (j : Int) + 2⟩, j)
def fuL (j : Nat) : List (R4 × Int) := (List.range j).map fuI
theorem fuL_succ (j : Nat) : fuL (j + 1) = fuL j ++ [fuI j] := by unfold fuL; rw [List.range_succ, List.map_append]; rfl
theorem fuL_len (j : Nat) : (fuL j).length = j := by unfold fuL; simp
theorem fuL_ids {j : Nat} {i : Int} : (∃ p ∈ fuL j, p.2 = i) ↔ ∃ q : Nat, q < j ∧ (q : Int) = i := by
  unfold fuL
  constructor
  · rintro ⟨p, hp, rfl⟩
    obtain ⟨q, hq, rfl⟩ := List.mem_map.1 hp
    exact ⟨q, List.mem_range.1 hq, rfl⟩
  · rintro ⟨q, hq, rfl⟩
    exact ⟨fuI q, List.mem_map.2 ⟨q, List.mem_range.2 hq, rfl⟩, rfl⟩
def FuR (z t n : Nat) (v : World) (vi : Value) (wr : World) : Prop := ∃ j : Nat, vi = .int .i64 (j : Int) ∧ j ≤ 2000 ∧ Ix z t n (fuL j) wr ∧ Below z v wr
theorem full_any (o : Int) (r : R4) (w : World) : Calls Tryz.prog 5 #[.int .i64 o, .agg #[.int .i64 r.x1, .int .i64 r.y1, .int .i64 r.x2, .int .i64 r.y2]] w fun e w' => e = .returned (.bool true) ∧ Below w.heap.size w w' := by
  have q1 := eql_argn
  have q2 := eql_nils
  have q3 := neq_nils
  have q4 := tree_some
  have q5 := tree_nil
  have q6 := tree_nnil
  have q7 := tree_nsome
  have q8 := eql_full
  have q9 := eql_twice
  have q10 := eql_bo
  obtain ⟨v, hv⟩ : ∃ v, v = w.alloc (.cells (rC r) 26) := ⟨_, rfl⟩
  have BV := Lib.hid (show Below w.heap.size w v by rw [hv]; exact (Below.refl _ _).alloc (Nat.le_refl _) _)
  have VR := Lib.hid (show v.heap[w.heap.size]? = some (.cells (rC r) 26 (0, 0)) by rw [hv]; exact (MapKept.heap_alloc w _).1)
  have HVS := Lib.hid (show w.heap.size < v.heap.size by rw [hv]; simp)
  have RC := Lib.hid (fun W (hb : Below v.heap.size v W) => rc_cells ((hb.block w.heap.size HVS.out).trans VR.out))
  have hve := hv
  unfold rC at hve
  have HV := Lib.hid hve
  clear hv hve
  go_enter Tryz.func5, Tryz.ntmps5
  go_wp2_with fail
  rw [← HV.out]
  refine Calls.mono (up_any v) ?_
  rintro e w1 ⟨rfl, hb1⟩
  have B1 := Lib.hid hb1
  clear hb1
  go_wp2_with fail
  refine Calls.mono (ix_new o w1) ?_
  rintro e w2 ⟨hb2, ⟨ho, rfl⟩ | ⟨n, t, hno, h1, h2, rfl, hx⟩⟩
  · have B2 := Lib.hid (B1.out.trans (hb2.mono B1.out.size))
    obtain ⟨c0, c1, c2, c3, -⟩ := RC.out _ B2.out
    clear hb2
    go_wp2_with fail
    refine Calls.mono (refRect_any r.x1 r.y1 r.x2 r.y2 _) ?_
    rintro e w3 ⟨rfl, hb3⟩
    have B3 := Lib.hid (B2.out.trans (hb3.mono B2.out.size))
    clear hb3
    go_wp2_with fail
    go_ret
    exact ⟨by simp, BV.out.trans (B3.out.mono BV.out.size)⟩
  · have B2 := Lib.hid (B1.out.trans (hb2.mono B1.out.size))
    have X2 := Lib.hid (hx.down B1.out.size)
    obtain ⟨c0, c1, c2, c3, -⟩ := RC.out _ B2.out
    clear hb2 hx
    unfold ptr
    go_wp2_with fail
    refine Calls.mono (refRect_any r.x1 r.y1 r.x2 r.y2 _) ?_
    rintro e w3 ⟨rfl, hb3⟩
    have B3 := Lib.hid (B2.out.trans (hb3.mono B2.out.size))
    have X3 := Lib.hid (X2.out.later hb3)
    clear hb3
    cases hm : rmayB r.x1 r.y1 r.x2 r.y2 with
    | false =>
      go_wp2_with fail
      go_ret
      exact ⟨by simp, BV.out.trans (B3.out.mono BV.out.size)⟩
    | true =>
      have HM := Lib.hid hm
      have HNO := Lib.hid hno
      have R0 := Lib.hid (show FuR v.heap.size t n v (.int .i64 (0 : Nat)) w3 from ⟨0, rfl, by omega, X3.out, B3.out⟩)
      clear hm hno
      go_wp2_with fail
      go_loopw [9] (fun vi wr => FuR v.heap.size t n v vi wr) (fun vi _ => 2000 - (intOf vi).toNat)
      case atStart => exact R0.out
      case round =>
        clear R0 c0 c1 c2 c3
        obtain ⟨j, rfl, hj, hX, hB⟩ := hrel
        have XX := Lib.hid hX
        have BB := Lib.hid hB
        clear hX hB
        by_cases hlt : j < 2000
        · have hlz : (j : Int) < 2000 := by omega
          obtain ⟨xj, hxj⟩ : ∃ xj : Nat, xj = j * 37 % 2000 := ⟨_, rfl⟩
          have hxb : xj < 2000 := by rw [hxj]; exact Nat.mod_lt _ (by omega)
          have hrem : Int.tmod ((j : Int) * 37) 2000 = (xj : Int) := by rw [hxj]; rfl
          obtain ⟨X, hX⟩ : ∃ X : Int, X = (xj : Int) - 1000 := ⟨_, rfl⟩
          have hX1 : (xj : Int) - 1000 = X := hX.symm
          have hXb : -1000 ≤ X ∧ X < 1000 := by omega
          have hFX : fuX j = X := by unfold fuX; rw [← hxj]; exact hX1
          have CP := Lib.hid (ix_put ⟨X, j, X + 3, (j : Int) + 2⟩ (j : Int) XX.out h1 h2 (by unfold wf64; omega) (by rw [fuL_len]; omega))
          have HFI := Lib.hid (show fuI j = (⟨X, j, X + 3, (j : Int) + 2⟩, (j : Int)) by unfold fuI; rw [hFX])
          have HMJ := Lib.hid (show rmayB X j (X + 3) ((j : Int) + 2) = true from rmayB_mk ⟨by omega, by omega, by omega, by omega, by omega, by omega⟩)
          unfold ptr at CP
          dsimp only at CP
          clear hX hFX hxj
          go_wp2_with fail
          refine Calls.mono CP.out ?_
          rintro e w4 ⟨hb4, ⟨hbad, -⟩ | ⟨-, -, hin, -⟩ | ⟨-, -, -, hfull, -⟩ | ⟨-, -, -, -, rfl, hx4⟩⟩
          · exfalso
            rcases hbad with h | h
            · have := HMJ.out; rw [this] at h; cases h
            · omega
          · exfalso
            obtain ⟨q, hq, e⟩ := fuL_ids.1 hin
            omega
          · exfalso
            rw [fuL_len] at hfull
            omega
          · have X4 := Lib.hid (show Ix v.heap.size t n (fuL (j + 1)) w4 by rw [fuL_succ, HFI.out]; exact hx4)
            have B4 := Lib.hid (BB.out.trans hb4)
            clear hx4 hb4
            go_wp2_with fail
            go_roundw
            case rel => exact ⟨j + 1, by go_num, by omega, X4.out, B4.out⟩
            case measure => simp [intOf]; omega
        · have hlz : ¬ (j : Int) < 2000 := by omega
          have hj2 : j = 2000 := by omega
          have X5 := Lib.hid (show Ix v.heap.size t n (fuL 2000) wr by rw [← hj2]; exact XX.out)
          obtain ⟨c0, c1, c2, c3, -⟩ := RC.out _ BB.out
          have CP := Lib.hid (ix_put r 2000 X5.out h1 h2 (by unfold wf64; omega) (by rw [fuL_len]; omega))
          unfold ptr at CP
          clear XX hj2
          go_wp2_with fail
          refine Calls.mono CP.out ?_
          rintro e w4 ⟨hb4, ⟨hbad, -⟩ | ⟨-, -, hin, -⟩ | ⟨-, -, -, -, rfl, hx4⟩ | ⟨-, -, -, hfew, -⟩⟩
          · exfalso
            rcases hbad with h | h
            · rw [HM.out] at h; cases h
            · omega
          · exfalso
            obtain ⟨q, hq, e⟩ := fuL_ids.1 hin
            omega
          · have X4 := Lib.hid hx4
            have B4 := Lib.hid (BB.out.trans hb4)
            clear hx4 hb4 c0 c1 c2 c3 CP
            obtain ⟨c0, c1, c2, c3, -⟩ := RC.out _ B4.out
            have CP := Lib.hid (ix_put r 5 X4.out h1 h2 (by unfold wf64; omega) (by rw [fuL_len]; omega))
            unfold ptr at CP
            go_wp2_with fail
            refine Calls.mono CP.out ?_
            rintro e w5 ⟨hb5, ⟨hbad, -⟩ | ⟨-, -, -, rfl, hx5⟩ | ⟨-, -, hni, -⟩ | ⟨-, -, hni, -⟩⟩
            · exfalso
              rcases hbad with h | h
              · rw [HM.out] at h; cases h
              · omega
            · have X6 := Lib.hid hx5
              have B5 := Lib.hid (B4.out.trans hb5)
              have CL := Lib.hid (ix_len X6.out)
              have CA := Lib.hid (ix_amiss X6.out h1 h2 (by rw [fuL_len]; omega))
              rw [HNO.out] at CA
              rw [fuL_len] at CL
              unfold ptr at CL CA
              clear hx5 hb5 c0 c1 c2 c3 CP
              go_wp2_with fail
              refine Calls.mono CL.out ?_
              rintro e w6 ⟨rfl, rfl⟩
              go_wp2_with fail
              refine Calls.mono CA.out ?_
              rintro e w7 ⟨rfl, hb7⟩
              have B7 := Lib.hid (B5.out.trans (hb7.mono B5.out.size))
              clear hb7
              go_wp2_with fail
              go_ret
              exact ⟨by simp, BV.out.trans (B7.out.mono BV.out.size)⟩
            · exfalso
              exact hni (fuI 5) (List.mem_map.2 ⟨5, List.mem_range.2 (by omega), rfl⟩) rfl
            · exfalso
              exact hni (fuI 5) (List.mem_map.2 ⟨5, List.mem_range.2 (by omega), rfl⟩) rfl
          · exfalso
            rw [fuL_len] at hfew
            omega
end Go.Proofs.YtobkgamcjfjghaaGreat.Rt

namespace Go.Proofs.YtobkgamcjfjghaaGreat.rtreeFull
open Go.ChangeShapes Go.WideShapes Go.ChangeAt Go.RowKit Go.Joins
set_option linter.unusedVariables false

theorem own : ownKnob Tryz.prog.godebug = none := by kernel_rfl
theorem laidOut : laidOutB Tryz.prog = true := by kernel_rfl

set_option maxHeartbeats 1000000 in
set_option maxRecDepth 100000 in
theorem lifted (os : Os) (started : os.Started) (H : Type) (enc : TypeId × Value → H) :
    ReturnsInHanded {} Tryz.checked os 5 .any (Rows.rtreeFullSpec.pre6 enc Tryz.prog Tryz.f5 Rows.rtreeFullRow.domain false) (Rows.rtreeFullSpec.post enc Tryz.prog Tryz.f5 false true false false) := by
  refine returnsInHanded_of_change (C := Tryz.checked) own started (by kernel_rfl) Tryz.func5
    (ChangeSpec.witness6 (enc := enc) (C := Tryz.checked) false ⟨#[], #[.int .i64 0, .agg #[.int .i64 0, .int .i64 0, .int .i64 0, .int .i64 0]], []⟩ 8 (by kernel_rfl) (by kernel_rfl) (by kernel_rfl) (by kernel_rfl)) ?_
  intro W base args ds gs before hval0 hW hcnd _
  have hval : ∀ (j : Nat) t v, Tryz.f5.params[j]? = some t → args[j]? = some v → Value.okWide Tryz.prog W .any base t v := hval0
  have hW' := hW
  obtain ⟨p, q, hA0, hV, rfl, hfz, hnd⟩ := hW
  have hA : DataW.TrodAll enc Tryz.prog W 0 (fun _ => true) true Tryz.f5.params.toList args.toList ds p := hA0
  rw [Tryz.params5] at hA hval
  obtain ⟨v0, vs0, d0, ds0, p0, q0, hargs, rfl, rfl, h0, r0⟩ := trodAll_cons hA
  obtain ⟨v1, vs1, d1, ds1, p1, q1, rfl, rfl, rfl, h1, r1⟩ := trodAll_cons r0
  obtain ⟨rfl, rfl, rfl⟩ := trodAll_nil r1
  obtain rfl : args = #[v0, v1] := by cases args; simp_all
  obtain ⟨rfl, rfl⟩ := trodVars_none hV
  have k0 := h0
  have lt0 : ∀ x ∈ p0, x.block < W.heap.size := by obtain ⟨m, hm⟩ := k0; exact DataW.trod_lt m _ _ _ hm
  obtain ⟨x0_0, rfl⟩ := okWide_int Tryz.underlying3 (hval 0 3 v0 rfl rfl)
  have k1 := h1
  have lt1 : ∀ x ∈ p1, x.block < W.heap.size := by obtain ⟨m, hm⟩ := k1; exact DataW.trod_lt m _ _ _ hm
  obtain ⟨x1_0, x1_1, x1_2, x1_3, rfl⟩ : ∃ x1_0 x1_1 x1_2 x1_3 : Int, v1 = .agg #[.int .i64 x1_0, .int .i64 x1_1, .int .i64 x1_2, .int .i64 x1_3] := by
    obtain ⟨c0, c1, c2, c3, z0, z1, z2, z3, m, hv, _, _, hz0, hz1, hz2, hz3⟩ := open_agg4 Tryz.underlying26 (by kernel_rfl) (by kernel_rfl) (hval 1 26 v1 rfl rfl) h1
    obtain ⟨n0, e0, _, _⟩ := DataW.trod_int Tryz.underlying2 hz0
    obtain ⟨n1, e1, _, _⟩ := DataW.trod_int Tryz.underlying2 hz1
    obtain ⟨n2, e2, _, _⟩ := DataW.trod_int Tryz.underlying2 hz2
    obtain ⟨n3, e3, _, _⟩ := DataW.trod_int Tryz.underlying2 hz3
    simp at e0 e1 e2 e3
    subst e0 e1 e2 e3
    exact ⟨n0, n1, n2, n3, hv⟩
  clear hA0 hval0
  refine (Rt.full_any x0_0 ⟨x1_0, x1_1, x1_2, x1_3⟩ W).mono fun e W' ⟨he, bel⟩ => ?_
  subst he
  exact ⟨_, rfl, _, _, _, [], _, [], hW', trodAll_mk1 (shut_bool Tryz.underlying4 _), (trodAll_cons_mk (Below.trod laidOut (by kernel_rfl) (of_decide_eq_true (by kernel_rfl)) k0 bel lt0) (trodAll_cons_mk (Below.trod laidOut (by kernel_rfl) (of_decide_eq_true (by kernel_rfl)) k1 bel lt1) trodAll_mk0)), rfl, bel.frame _, fun h => by cases h⟩

theorem over : Rows.rtreeFullRow.holds Tryz.pinned (OpenSpec.ofChange Rows.rtreeFullSpec) :=
  OpenClaim.holds_of_wide 5 Tryz.f5 rfl rfl rfl rfl rfl rfl rfl ⟨rfl, rfl, rfl, rfl, rfl⟩ rfl rfl rfl rfl rfl (by kernel_rfl) Tryz.func5 (by kernel_rfl)
    (of_decide_eq_true (by kernel_rfl)) (by unfold Func.isWrapper; first | (rw [if_pos (by decide +kernel)]; kernel_rfl) | (rw [if_neg (by decide +kernel)]; exact ⟨rfl, rfl⟩))
    (fun os started H enc _ => lifted os started H enc)

theorem proved : Rows.RtreeFullSaid := over
#print axioms proved
end Go.Proofs.YtobkgamcjfjghaaGreat.rtreeFull
