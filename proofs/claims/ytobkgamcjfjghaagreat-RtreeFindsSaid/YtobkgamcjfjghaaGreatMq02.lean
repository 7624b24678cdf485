/-
  The walk of the statement RtreeFinds: whatever order, rectangles and step it is given, it returns true, and memory that was there is left as it was.
-/
import Derived.Test.YtobkgamcjfjghaaGreatMq01
import Derived.BigQuiet
import Derived.IntWalk
import Derived.Laws.AppendOwnNone
namespace Go.Proofs.YtobkgamcjfjghaaGreat.Rt
open Go.RowKit Go.Joins Go.Maps Go.Proofs.YtobkgamcjfjghaaGreat.Pt Go.Proofs.YtobkgamcjfjghaaGreat.Rc Go.Proofs.YtobkgamcjfjghaaGreat.Rs
set_option linter.unusedVariables false
set_option linter.unusedSimpArgs false
set_option maxHeartbeats 8000000
set_option maxRecDepth 100000
theorem neq_none9 (w : World) : (binOp .neq 30 (.iface 33 (.int .i64 9)) (.iface 33 (.int .i64 9))).run Tryz.prog w = .ok (.bool false) w := by kernel_rfl
def FdsR (w : World) (l : List R4) (t o N : Nat) (v vi : Value) (wr : World) : Prop := ∃ (j : Nat) (th : List Nat) (F : Nat → Prop), vi = .int .i64 (j : Int) ∧ j ≤ l.length ∧ Fi w l t o N j th F v wr
def FsoR (w : World) (l : List R4) (t o N : Nat) (v : Value) (wr : World) : Prop := ∃ (th : List Nat) (F : Nat → Prop), Fi w l t o N l.length th F v wr
def MtR (zs : List Int) (i : Int) (c : Nat) (w2 : World) (vm vi : Value) (wr : World) : Prop := ∃ j : Nat, vm = .int .i64 ((c + (zs.take j).count i : Nat) : Int) ∧ vi = .int .i64 (j : Int) ∧ j ≤ zs.length ∧ w2 = wr
def NoM (zs : List Int) (w2 : World) (vi : Value) (wr : World) : Prop := ∃ j : Nat, vi = .int .i64 (j : Int) ∧ j ≤ zs.length ∧ w2 = wr
def lenOf' : Value → Nat | .slice _ n _ => n | _ => 0
theorem count_next {zs : List Int} {i : Int} {j : Nat} (h : j < zs.length) : (zs.take (j + 1)).count i = (zs.take j).count i + (if zs[j] == i then 1 else 0) := by
  rw [List.take_succ_eq_append_getElem h, List.count_append, List.count_singleton]
theorem finds_any (o : Int) (AA : Option Addr) (l : List R4) (c : Nat) (step : Int) (w : World) (hlm : l.length ≤ maxLen) (hA : RcL w AA l) :
    Calls Tryz.prog 4 #[.int .i64 o, .slice AA l.length c, .int .i64 step] w fun e w' => e = .returned (.bool true) ∧ Below w.heap.size w w' := by
  have q1 := eql_argn
  have q2 := eql_nils
  have q3 := neq_nils
  have q4 := tree_some
  have q5 := tree_nil
  have q6 := tree_nnil
  have q7 := tree_nsome
  have q10 := eql_bo
  have q11 := neq_none9
  have HA := Lib.hid hA
  obtain ⟨N, hN⟩ : ∃ N, N = l.length := ⟨_, rfl⟩
  have HN := Lib.hid hN
  rw [← hN] at hlm ⊢
  unfold maxLen at hlm
  clear hA hN
  go_enter Tryz.func4, Tryz.ntmps4
  go_wp2_with fail
  refine Calls.mono (up_any w) ?_
  rintro e w1 ⟨rfl, hb1⟩
  have B1 := Lib.hid hb1
  clear hb1
  go_wp2_with fail
  refine Calls.mono (iy_new o w1) ?_
  rintro e w2 ⟨hb2, ⟨ho, rfl⟩ | ⟨n, t, F, hno, h1, h2, rfl, hx, hF⟩⟩
  · have B2 := Lib.hid (B1.out.trans (hb2.mono B1.out.size))
    clear hb2
    go_wp2_with fail
    go_ret
    exact ⟨by simp, B2.out⟩
  · have B2 := Lib.hid (B1.out.trans (hb2.mono B1.out.size))
    have X2 := Lib.hid hx
    have F2 := Lib.hid (show ∀ k, F k → w.heap.size ≤ k from fun k hk => Nat.le_trans B1.out.size (hF k hk))
    have HNO := Lib.hid hno
    clear hb2 hx hF hno
    unfold ptr
    by_cases hbad : N > 150 ∨ (¬ N > 150 ∧ step < 1) ∨ (¬ N > 150 ∧ ¬ step < 1 ∧ step > 1000)
    · rcases hbad with hz | ⟨hz', hz⟩ | ⟨hz', hz'', hz⟩
      · have hzz : (N : Int) > 150 := by omega
        go_wp2_with fail
        go_ret
        exact ⟨by simp, B2.out⟩
      · have hzz : ¬ (N : Int) > 150 := by omega
        go_wp2_with fail
        go_ret
        exact ⟨by simp, B2.out⟩
      · have hzz : ¬ (N : Int) > 150 := by omega
        go_wp2_with fail
        go_ret
        exact ⟨by simp, B2.out⟩
    · have hN150 : N ≤ 150 := by omega
      have hzz : ¬ (N : Int) > 150 := by omega
      have hs1 : ¬ step < 1 := by omega
      have hs2 : ¬ step > 1000 := by omega
      obtain ⟨i0, hi0, hz0, hz1, hz2⟩ := info_parts A.infoNi
      have R0 := Lib.hid (show FdsR w l t n N (.slice none 0 0) (.int .i64 (0 : Nat)) w2 from ⟨0, [], F, rfl, Nat.zero_le _, ⟨X2.out, World.ownsRow_nil _ _ _ _, (fun g hg => by cases hg), F2.out, B2.out, List.nodup_nil, (fun q hq => by cases hq), Nat.zero_le _⟩⟩)
      have hbe := fun W => run_emptyI W hi0
      clear hbad
      go_wp2_with fail
      go_loopw [10, 11] (fun v vi wr => FdsR w l t n N v vi wr) (fun _ vi _ => N - (intOf vi).toNat)
      case atStart => exact R0.out
      case round =>
        clear R0
        obtain ⟨j, th, F', rfl, hj, hFi⟩ := hrel
        have FI := Lib.hid hFi
        rw [← HN.out] at hj
        clear hFi
        by_cases hlt : j < N
        · have hlz : (j : Int) < (N : Int) := by omega
          have hj0 : (0 : Int) ≤ (j : Int) := by omega
          have hjl : j < l.length := by rw [← HN.out]; exact hlt
          obtain ⟨g, off, eA, hg, hc⟩ := HA.out (by omega)
          subst eA
          obtain ⟨z0, z1, z2, z3⟩ := hc j hjl
          have a0 := cell_later FI.out.below z0
          have a1 := cell_later FI.out.below z1
          have a2 := cell_later FI.out.below z2
          have a3 := cell_later FI.out.below z3
          obtain ⟨r, hr⟩ : ∃ r, r = l[j] := ⟨_, rfl⟩
          rw [← hr] at a0 a1 a2 a3
          have HG := Lib.hid (show gR l j = r by rw [gR_at hjl, hr])
          have HJL := Lib.hid hjl
          have CP := Lib.hid (iy_put r (j : Int) FI.out.iy h1 h2 (by unfold wf64; omega) (by rw [its_len]; have := FI.out.few; omega))
          unfold ptr at CP
          clear z0 z1 z2 z3 hr hc hjl hlt
          go_wp2_with fail
          refine Calls.mono CP.out ?_
          rintro e w4 (⟨hbad, rfl, hb4⟩ | ⟨-, -, hin, -⟩ | ⟨-, -, -, hfull, -⟩ | ⟨hmay, -, -, -, rfl, F4, hx4, hch⟩)
          · have FN := Lib.hid ((FI.out.later hb4).more)
            clear hb4 hbad a0 a1 a2 a3
            go_wp2_with fail
            go_roundw
            case rel => first | exact ⟨j + 1, th, F', by go_num, HJL.out, FN.out⟩ | ((repeat apply Exists.intro); exact ⟨⟨j + 1, th, F', by go_num, HJL.out, FN.out⟩, rfl⟩)
            case measure => simp [intOf]; omega
          · exfalso
            obtain ⟨q, hq, e⟩ := its_in.1 hin
            have := (FI.out.mem q hq).1
            omega
          · exfalso
            rw [its_len] at hfull
            have := FI.out.few
            omega
          · obtain ⟨r4, o4⟩ := hch.row FI.out.row FI.out.out
            obtain ⟨b4, a4⟩ := hch.below FI.out.below.size FI.out.above
            have BB4 := Lib.hid (FI.out.below.trans b4)
            have O4 := Lib.hid o4
            have A4 := Lib.hid a4
            have X4 := Lib.hid hx4
            have MAY := Lib.hid hmay
            obtain ⟨w5, hw5⟩ : ∃ v, v = w4.alloc (.cells #[.int .i64 (j : Int)] 3) := ⟨_, rfl⟩
            have R5 := Lib.hid (show w5.ownsRow w.heap.size 3 1 u10 th.length (nmV th) by rw [hw5]; exact r4.alloc _)
            have B5 := Lib.hid (show Below w.heap.size w w5 by rw [hw5]; exact BB4.out.alloc BB4.out.size _)
            have X5 := Lib.hid (show Iy F4 t n (its l th ++ [(r, (j : Int))]) w5 by rw [hw5]; exact X4.out.later ((Below.refl _ _).alloc (Nat.le_refl _) _))
            have N5 := Lib.hid (show ∀ i u, ([Value.int .i64 (j : Int)])[i]? = some u → w5.cell? ((⟨w4.heap.size, 0, none⟩ : Addr).add i) = some u by rw [hw5]; exact cell_one_new _ _ _)
            have S5 := Lib.hid (show w4.heap.size < w5.heap.size by rw [hw5]; simp)
            have HW5 := Lib.hid hw5
            obtain ⟨m, hm⟩ : ∃ m, m = th.length := ⟨_, rfl⟩
            have HM := Lib.hid hm
            have hm150 : m ≤ 150 := by have := FI.out.few; omega
            obtain ⟨XS, hXS⟩ : ∃ XS, XS = nmV th := ⟨_, rfl⟩
            have HXS := Lib.hid hXS
            rw [← hm, ← hXS] at R5
            clear hch r4 o4 b4 a4 hx4 hmay a0 a1 a2 a3 hw5 hm hXS CP
            go_wp2_with (first
              | (at_builtin; rw [← HW5.out]; refine wpList_append_own_at _ rfl _ _ 49 rfl w.heap.size 3 i0 (.int .i64 0) 1 8 Tryz.underlying49 hi0 hz0 hz1 hz2 rfl (by decide) _ _ _ rfl R5.out ⟨w4.heap.size, 0, none⟩ 1 1 [.int .i64 (j : Int)] rfl rfl N5.out (oneL [(j : Int)]) (by unfold maxLen; omega) (by omega) B5.out.size ?_))
            intro v6 w6 hown hgrow _ hob
            have FN := Lib.hid (show Fi w l t n N (j + 1) (th ++ [j]) F4 v6 w6 from by
              refine ⟨?_, ?_, fun g hg hf => ?_, A4.out, B5.out.grown hgrow B5.out.size (fun q hq => (R5.out.lt q hq).1), ?_, fun q hq => ?_, by rw [List.length_append]; have := FI.out.few; simp; omega⟩
              · rw [its_snoc, HG.out]
                exact X5.out.grown hgrow O4.out
              · rw [List.length_append, show nmV (th ++ [j]) = XS ++ [.int .i64 (j : Int)] by rw [HXS.out]; unfold nmV; rw [List.map_append]; rfl, ← HM.out]
                exact hown
              · have hlt5 := X4.out.lt hf
                rcases hob with h | h
                · exact O4.out g (by rw [← h]; exact hg) hf
                · have h7 := S5.out
                  rw [hg] at h
                  have h8 : g = w5.heap.size := by simpa using h
                  omega
              · rw [List.nodup_append]
                refine ⟨FI.out.nd, by simp, fun a ha b hb e => ?_⟩
                rw [List.mem_singleton] at hb
                have := (FI.out.mem a ha).1
                omega
              · rcases List.mem_append.1 hq with h | h
                · exact ⟨Nat.lt_succ_of_lt (FI.out.mem q h).1, (FI.out.mem q h).2⟩
                · rw [List.mem_singleton] at h
                  subst h
                  exact ⟨Nat.lt_succ_self _, by rw [HG.out]; exact MAY.out⟩)
            clear hown hgrow hob
            go_wp2_with fail
            go_roundw
            case rel => first | exact ⟨j + 1, th ++ [j], F4, by go_num, HJL.out, FN.out⟩ | ((repeat apply Exists.intro); exact ⟨⟨j + 1, th ++ [j], F4, by go_num, HJL.out, FN.out⟩, rfl⟩)
            case measure => simp [intOf]; omega
        · have hlz : ¬ (j : Int) < (N : Int) := by omega
          have hjN : j = l.length := by rw [← HN.out]; omega
          have R1 := Lib.hid (show FsoR w l t n N u10 wr from ⟨th, F', by rw [← hjN]; exact FI.out⟩)
          clear FI hjN hlt hj
          go_wp2_with fail
          go_loopw [10] (fun v wr => FsoR w l t n N v wr) (fun v _ => lenOf' v)
          case atStart => exact R1.out
          case round =>
            clear R1
            obtain ⟨th, F', hFi⟩ := hrel
            have FI := Lib.hid hFi
            clear hFi
            by_cases h0 : th = []
            · subst h0
              obtain ⟨ae, ce, e0⟩ : ∃ a c, u10 = .slice a 0 c := by
                rcases FI.out.row.2 with ⟨e, e2⟩ | ⟨g2, c2, cur, e, _⟩
                · exact ⟨none, 0, e⟩
                · exact ⟨_, c2, e⟩
              subst e0
              have X0 := Lib.hid (show Iy F' t n [] wr from FI.out.iy)
              have CN := Lib.hid (iy_nodes X0.out h1 h2)
              unfold ptr at CN
              go_wp2_with fail
              refine Calls.mono CN.out ?_
              rintro e w4 ⟨⟨a, c4, rfl⟩, hb4⟩
              have B4 := Lib.hid (FI.out.below.trans (hb4.mono FI.out.below.size))
              have X4 := Lib.hid (X0.out.later hb4)
              have CL := Lib.hid (ix_len X4.out.ix)
              have CA := Lib.hid (ix_amiss X4.out.ix h1 h2 (by simp))
              rw [HNO.out] at CA
              unfold ptr at CL CA
              simp only [List.length_nil] at CL
              clear hb4 CN
              go_wp2_with fail
              refine Calls.mono CL.out ?_
              rintro e w5 ⟨rfl, rfl⟩
              go_wp2_with fail
              refine Calls.mono CA.out ?_
              rintro e w6 ⟨rfl, hb6⟩
              go_wp2_with fail
              go_ret
              exact ⟨by simp, B4.out.trans (hb6.mono B4.out.size)⟩
            · obtain ⟨m, hm⟩ : ∃ m, m = th.length := ⟨_, rfl⟩
              have hmp : 0 < m := by rw [hm]; exact List.length_pos_iff.2 h0
              obtain ⟨gt, ct, e0, hnc, hcap⟩ : ∃ g c, u10 = .slice (some ⟨g, 0, none⟩) m c ∧ m ≤ c ∧ c ≤ maxLen := by
                rcases FI.out.row.2 with ⟨e, e2⟩ | ⟨g2, c2, cur, e, _, _, h5, h6, _⟩
                · omega
                · exact ⟨g2, c2, by rw [hm]; exact e, by omega, h6⟩
              subst e0
              have hm150 : m ≤ 150 := by have := FI.out.few; have := HN.out; omega
              obtain ⟨sn, hsn⟩ : ∃ sn : Nat, (sn : Int) = step := ⟨step.toNat, by omega⟩
              obtain ⟨k, hk⟩ : ∃ k, k = sn % m := ⟨_, rfl⟩
              have hkm : k < m := by rw [hk]; exact Nat.mod_lt _ hmp
              have hrem : Int.tmod step (m : Int) = (k : Int) := by rw [← hsn, hk]; rfl
              have hmz : ¬ (m : Int) = 0 := by omega
              have hmpz : (m : Int) > 0 := by omega
              have hkz : (k : Int) < (m : Int) := by omega
              have hk0 : (0 : Int) ≤ (k : Int) := by omega
              have hkt : k < th.length := by rw [← hm]; exact hkm
              obtain ⟨q, hq⟩ : ∃ q, q = th[k] := ⟨_, rfl⟩
              have hqm := FI.out.mem q (by rw [hq]; exact List.getElem_mem hkt)
              have hql : q < l.length := hqm.1
              have hrow0 := FI.out.row
              rw [← hm] at hrow0
              have ck : wr.cell? ⟨gt, k, none⟩ = some (.int .i64 (q : Int)) := by
                rw [hrow0.cellAt k (by omega)]
                unfold nmV
                rw [List.getElem?_map, List.getElem?_eq_getElem hkt, ← hq]
                rfl
              have hqz : (q : Int) < (N : Int) := by have := HN.out; omega
              have hq0 : (0 : Int) ≤ (q : Int) := by omega
              obtain ⟨g, off, eA, hg, hc⟩ := HA.out (by omega)
              subst eA
              obtain ⟨z0, z1, z2, z3⟩ := hc q hql
              have a0 := cell_later FI.out.below z0
              have a1 := cell_later FI.out.below z1
              have a2 := cell_later FI.out.below z2
              have a3 := cell_later FI.out.below z3
              obtain ⟨r, hr⟩ : ∃ r, r = l[q] := ⟨_, rfl⟩
              rw [← hr] at a0 a1 a2 a3
              have hgr : gR l q = r := by rw [gR_at hql, hr]
              have hmay : may4 r := by rw [← hgr]; exact hqm.2
              have HRB := Lib.hid (show r.x1 ≤ r.x2 ∧ r.y1 ≤ r.y2 from by obtain ⟨_, b2, _, _, b5, _⟩ := rmayB_bd hmay; exact ⟨b2, b5⟩)
              have HQI := Lib.hid (show (r, (q : Int)) ∈ its l th from by unfold its; exact List.mem_map.2 ⟨q, by rw [hq]; exact List.getElem_mem hkt, by rw [hgr]⟩)
              have HKT := Lib.hid hkt
              have HQ := Lib.hid (show th[k]? = some q by rw [hq]; exact List.getElem?_eq_getElem hkt)
              have HGR := Lib.hid hgr
              have HM := Lib.hid hm
              have ROW0 := Lib.hid hrow0
              have LTI := Lib.hid (show (its l th).length ≤ 2000 by rw [its_len]; omega)
              obtain ⟨wa, hwa⟩ : ∃ v, v = wr.alloc (.cells (rC r) 26) := ⟨_, rfl⟩
              have BA := Lib.hid (show Below wr.heap.size wr wa by rw [hwa]; exact (Below.refl _ _).alloc (Nat.le_refl _) _)
              have BXA := Lib.hid (show wa.heap[wr.heap.size]? = some (.cells (rC r) 26 (0, 0)) by rw [hwa]; exact (MapKept.heap_alloc wr _).1)
              have CA1 := Lib.hid (iy_at r.x1 r.y1 (FI.out.iy.later BA.out) h1 h2 LTI.out)
              have hwae := hwa
              unfold rC at hwae
              have HWA := Lib.hid hwae
              rw [hwae] at CA1
              unfold ptr at CA1
              have BXW := Lib.hid (fun (W : World) (hb : Below wa.heap.size wa W) => rc_cells ((hb.block wr.heap.size (Array.getElem?_eq_some_iff.1 BXA.out).1).trans BXA.out))
              clear hm hnc hcap hk hkm hkt hq hqm hql hrow0 z0 z1 z2 z3 hr hgr hmay hwa hwae hc h0
              go_wp2_with fail
              refine Calls.mono CA1.out ?_
              rintro e w5 ⟨s1, rfl, hrow1, hb5⟩
              rw [← HWA.out] at hb5 hrow1
              obtain ⟨zs1, hzs1⟩ : ∃ zs, zs = fnL (its l th) fun r' => inB r'.x1 r'.y1 r'.x2 r'.y2 r.x1 r.y1 := ⟨_, rfl⟩
              rw [← hzs1] at hrow1
              have C1 := Lib.hid (show zs1.count (q : Int) = 1 from by
                rw [hzs1]
                have hnd := fnL_nodup (P := fun r' => inB r'.x1 r'.y1 r'.x2 r'.y2 r.x1 r.y1) FI.out.iy.ids
                have hmem : (q : Int) ∈ fnL (its l th) fun r' => inB r'.x1 r'.y1 r'.x2 r'.y2 r.x1 r.y1 := fnL_mem.2 ⟨_, HQI.out, inB_iff.2 ⟨Int.le_refl _, HRB.out.1, Int.le_refl _, HRB.out.2⟩, rfl⟩
                rw [hnd.count, if_pos hmem])
              have hlen1 : 0 < zs1.length := by
                rcases Nat.eq_zero_or_pos zs1.length with h | h
                · have := C1.out; rw [List.length_eq_zero_iff.1 h] at this; simp at this
                · exact h
              obtain ⟨n1, hn1⟩ : ∃ n1, n1 = zs1.length := ⟨_, rfl⟩
              rw [← hn1] at hlen1 hrow1
              obtain ⟨g1, c1, e1, -⟩ : ∃ g c, s1 = .slice (some ⟨g, 0, none⟩) n1 c ∧ True := by
                rcases hrow1.2 with ⟨e, e2⟩ | ⟨g2, c2, cur, e, _⟩
                · omega
                · exact ⟨g2, c2, e, trivial⟩
              subst e1
              have N1 := Lib.hid hn1
              have hn1b : n1 ≤ 2000 := by rw [hn1, hzs1]; exact Nat.le_trans (fnL_len _ _) LTI.out
              have R1 := Lib.hid hrow1
              have B5 := Lib.hid hb5
              have B5w := Lib.hid (BA.out.trans (hb5.mono BA.out.size))
              obtain ⟨y0, y1, y2, y3, -⟩ := BXW.out w5 hb5
              have CA2 := Lib.hid (iy_at r.x2 r.y1 (FI.out.iy.later B5w.out) h1 h2 LTI.out)
              unfold ptr at CA2
              clear hrow1 hb5 hzs1 hn1 a0 a1 a2 a3 ck CA1
              go_wp2_with fail
              refine Calls.mono CA2.out ?_
              rintro e w6 ⟨s2, rfl, hrow2, hb6⟩
              obtain ⟨zs2, hzs2⟩ : ∃ zs, zs = fnL (its l th) fun r' => inB r'.x1 r'.y1 r'.x2 r'.y2 r.x2 r.y1 := ⟨_, rfl⟩
              rw [← hzs2] at hrow2
              have C2 := Lib.hid (show zs2.count (q : Int) = 1 from by
                rw [hzs2]
                have hnd := fnL_nodup (P := fun r' => inB r'.x1 r'.y1 r'.x2 r'.y2 r.x2 r.y1) FI.out.iy.ids
                have hmem : (q : Int) ∈ fnL (its l th) fun r' => inB r'.x1 r'.y1 r'.x2 r'.y2 r.x2 r.y1 := fnL_mem.2 ⟨_, HQI.out, inB_iff.2 ⟨HRB.out.1, Int.le_refl _, Int.le_refl _, HRB.out.2⟩, rfl⟩
                rw [hnd.count, if_pos hmem])
              have hlen2 : 0 < zs2.length := by
                rcases Nat.eq_zero_or_pos zs2.length with h | h
                · have := C2.out; rw [List.length_eq_zero_iff.1 h] at this; simp at this
                · exact h
              obtain ⟨n2, hn2⟩ : ∃ n2, n2 = zs2.length := ⟨_, rfl⟩
              rw [← hn2] at hlen2 hrow2
              obtain ⟨g2, c2, e2, -⟩ : ∃ g c, s2 = .slice (some ⟨g, 0, none⟩) n2 c ∧ True := by
                rcases hrow2.2 with ⟨e, e2⟩ | ⟨g2, c2, cur, e, _⟩
                · omega
                · exact ⟨g2, c2, e, trivial⟩
              subst e2
              have N2 := Lib.hid hn2
              have hn2b : n2 ≤ 2000 := by rw [hn2, hzs2]; exact Nat.le_trans (fnL_len _ _) LTI.out
              have R2 := Lib.hid hrow2
              have R16 := Lib.hid (show w6.ownsRow wa.heap.size 3 1 (.slice (some ⟨g1, 0, none⟩) n1 c1) n1 (zs1.map (Value.int .i64)) from R1.out.kept (row := none) ⟨hb6.os, hb6.tape, hb6.output, hb6.size, fun k hk _ => hb6.block k hk⟩ (by simp [Value.ownBlock]))
              have B6 := Lib.hid (B5.out.trans (hb6.mono B5.out.size))
              have B6w := Lib.hid (B5w.out.trans (hb6.mono B5w.out.size))
              clear hrow2 hb6 hzs2 hn2 y0 y1 y2 y3 CA2
              go_wp2_with fail
              go_loopw [18, 19] (fun vm vi wk => MtR zs1 (q : Int) 0 w6 vm vi wk) (fun _ vi _ => n1 - (intOf vi).toNat)
              case atStart => exact ⟨0, by simp, rfl, Nat.zero_le _, rfl⟩
              case round =>
                obtain ⟨j, rfl, rfl, hj, rfl⟩ := hrel
                rw [← N1.out] at hj
                obtain ⟨mt, hmt⟩ : ∃ mt, mt = 0 + (zs1.take j).count (q : Int) := ⟨_, rfl⟩
                rw [← hmt]
                by_cases hlt : j < n1
                · have hlz : (j : Int) < (n1 : Int) := by omega
                  have hj0 : (0 : Int) ≤ (j : Int) := by omega
                  have hjl : j < zs1.length := by rw [← N1.out]; exact hlt
                  obtain ⟨x, hx⟩ : ∃ x, x = zs1[j] := ⟨_, rfl⟩
                  have cx : w6.cell? ⟨g1, j, none⟩ = some (.int .i64 x) := by
                    rw [R16.out.cellAt j (by omega), List.getElem?_map, List.getElem?_eq_getElem hjl, hx]
                    rfl
                  have hcn := count_next (i := (q : Int)) hjl
                  rw [← hx] at hcn
                  have HCN := Lib.hid (show 0 + (zs1.take (j + 1)).count (q : Int) = mt + (if x == (q : Int) then 1 else 0) by rw [hcn, hmt]; omega)
                  have hmb : mt ≤ 100000 := by
                    have h7 := List.count_le_length (a := (q : Int)) (l := zs1.take j)
                    rw [List.length_take] at h7
                    omega
                  have HJL := Lib.hid (show j + 1 ≤ zs1.length from hjl)
                  clear hmt hx hjl hcn
                  cases hxq : (x == (q : Int)) with
                  | true =>
                    rw [hxq] at HCN
                    go_wp2_with fail
                    go_roundw
                    case rel => exact ⟨j + 1, by rw [HCN.out]; simp, by go_num, HJL.out, rfl⟩
                    case measure => simp [intOf]; omega
                  | false =>
                    rw [hxq] at HCN
                    go_wp2_with fail
                    go_roundw
                    case rel => exact ⟨j + 1, by rw [HCN.out]; simp, by go_num, HJL.out, rfl⟩
                    case measure => simp [intOf]; omega
                · have hlz : ¬ (j : Int) < (n1 : Int) := by omega
                  have hm1 : mt = 1 := by rw [hmt, List.take_of_length_le (by rw [← N1.out]; omega), C1.out]
                  clear hmt
                  subst hm1
                  go_wp2_with fail
                  go_loopw [18, 20] (fun vm vi wk => MtR zs2 (q : Int) 1 w6 vm vi wk) (fun _ vi _ => n2 - (intOf vi).toNat)
                  case atStart => exact ⟨0, by simp, rfl, Nat.zero_le _, rfl⟩
                  case round =>
                    obtain ⟨j, rfl, rfl, hj, rfl⟩ := hrel
                    rw [← N2.out] at hj
                    obtain ⟨mt, hmt⟩ : ∃ mt, mt = 1 + (zs2.take j).count (q : Int) := ⟨_, rfl⟩
                    rw [← hmt]
                    by_cases hlt : j < n2
                    · have hlz : (j : Int) < (n2 : Int) := by omega
                      have hj0 : (0 : Int) ≤ (j : Int) := by omega
                      have hjl : j < zs2.length := by rw [← N2.out]; exact hlt
                      obtain ⟨x, hx⟩ : ∃ x, x = zs2[j] := ⟨_, rfl⟩
                      have cx : w6.cell? ⟨g2, j, none⟩ = some (.int .i64 x) := by
                        rw [R2.out.cellAt j (by omega), List.getElem?_map, List.getElem?_eq_getElem hjl, hx]
                        rfl
                      have hcn := count_next (i := (q : Int)) hjl
                      rw [← hx] at hcn
                      have HCN := Lib.hid (show 1 + (zs2.take (j + 1)).count (q : Int) = mt + (if x == (q : Int) then 1 else 0) by rw [hcn, hmt]; omega)
                      have hmb : mt ≤ 100000 := by
                        have h7 := List.count_le_length (a := (q : Int)) (l := zs2.take j)
                        rw [List.length_take] at h7
                        omega
                      have HJL := Lib.hid (show j + 1 ≤ zs2.length from hjl)
                      clear hmt hx hjl hcn
                      cases hxq : (x == (q : Int)) with
                      | true =>
                        rw [hxq] at HCN
                        go_wp2_with fail
                        go_roundw
                        case rel => exact ⟨j + 1, by rw [HCN.out]; simp, by go_num, HJL.out, rfl⟩
                        case measure => simp [intOf]; omega
                      | false =>
                        rw [hxq] at HCN
                        go_wp2_with fail
                        go_roundw
                        case rel => exact ⟨j + 1, by rw [HCN.out]; simp, by go_num, HJL.out, rfl⟩
                        case measure => simp [intOf]; omega
                    · have hlz : ¬ (j : Int) < (n2 : Int) := by omega
                      have hm2 : mt = 2 := by rw [hmt, List.take_of_length_le (by rw [← N2.out]; omega), C2.out]
                      clear hmt
                      subst hm2
                      have I6 := Lib.hid (FI.out.iy.later B6w.out)
                      have FI6 := Lib.hid (FI.out.later B6w.out)
                      have CD := Lib.hid (iy_del (q : Int) I6.out h1 h2 (by unfold wf64; omega) LTI.out)
                      unfold ptr at CD
                      clear hlt hj
                      go_wp2_with fail
                      refine Calls.mono CD.out ?_
                      rintro e w7 (⟨hno, -⟩ | ⟨-, rfl, F7, l7, hx7, hch, hpm⟩)
                      · exact absurd rfl (hno _ HQI.out)
                      · obtain ⟨hkt, hqk⟩ := List.getElem?_eq_some_iff.1 HQ.out
                        have hp7 := hpm _ HQI.out rfl
                        have X7 := Lib.hid (hx7.perm (its_out (l := l) (th := th) (k := k) hkt (by rw [hqk, HGR.out]; exact hp7)))
                        obtain ⟨th', hth⟩ : ∃ th', th' = th.take k ++ th.drop (k + 1) := ⟨_, rfl⟩
                        rw [← hth] at X7
                        have hnd' : th'.Nodup ∧ q ∉ th' := by
                          have h7 : (th.take k ++ q :: th.drop (k + 1)).Nodup := by rw [← hqk, ← List.drop_eq_getElem_cons hkt, List.take_append_drop]; exact FI.out.nd
                          have h8 := (List.perm_middle.nodup_iff).1 h7
                          rw [hth]
                          exact ⟨(List.nodup_cons.1 h8).2, (List.nodup_cons.1 h8).1⟩
                        have hlen' : th'.length = m - 1 := by
                          rw [hth, List.length_append, List.length_take, List.length_drop, ← HM.out]
                          omega
                        obtain ⟨r7, o7⟩ := hch.row FI6.out.row FI6.out.out
                        obtain ⟨b7, a7⟩ := hch.below FI6.out.below.size FI6.out.above
                        have hbx6 := (B6.out.block _ (Array.getElem?_eq_some_iff.1 BXA.out).1).trans BXA.out
                        have hbf : ¬ F' _ := fun hf => absurd (FI.out.iy.lt hf) (Nat.lt_irrefl _)
                        obtain ⟨hb7, hb7f⟩ := hch.block (Array.getElem?_eq_some_iff.1 hbx6).1 hbf
                        have BX7 := Lib.hid (hb7.trans hbx6)
                        have B7 := Lib.hid (FI6.out.below.trans b7)
                        have O7 := Lib.hid o7
                        have A7 := Lib.hid a7
                        have R7 := Lib.hid r7
                        have HTH := Lib.hid hth
                        have HND := Lib.hid hnd'
                        have HL7 := Lib.hid hlen'
                        have LTI7 := Lib.hid (show (its l th').length ≤ 2000 by rw [its_len]; omega)
                        have CD2 := Lib.hid (iy_del (q : Int) X7.out h1 h2 (by unfold wf64; omega) LTI7.out)
                        unfold ptr at CD2
                        clear r7 o7 b7 a7 hbx6 hbf hb7 hb7f hth hnd' hlen' hch hx7 hpm hp7 hkt hqk CD
                        go_wp2_with fail
                        refine Calls.mono CD2.out ?_
                        rintro e w8 (⟨hno8, rfl, hw8⟩ | ⟨hin, -⟩)
                        · subst hw8
                          obtain ⟨y0, y1, y2, y3, -⟩ := rc_cells BX7.out
                          have CA3 := Lib.hid (iy_at r.x1 r.y1 X7.out h1 h2 LTI7.out)
                          unfold ptr at CA3
                          clear hno8 CD2
                          go_wp2_with fail
                          refine Calls.mono CA3.out ?_
                          rintro e w9 ⟨s3, rfl, hrow3, hb9⟩
                          obtain ⟨zs3, hzs3⟩ : ∃ zs, zs = fnL (its l th') fun r' => inB r'.x1 r'.y1 r'.x2 r'.y2 r.x1 r.y1 := ⟨_, rfl⟩
                          rw [← hzs3] at hrow3
                          have NOQ := Lib.hid (show (q : Int) ∉ zs3 from fun h => by
                            rw [hzs3] at h
                            obtain ⟨p, p1, -, p3⟩ := fnL_mem.1 h
                            obtain ⟨q', hq', e⟩ := its_in.1 ⟨p, p1, p3⟩
                            have : q' = q := by omega
                            subst this
                            exact HND.out.2 hq')
                          have hn3b : zs3.length ≤ 2000 := by rw [hzs3]; exact Nat.le_trans (fnL_len _ _) LTI7.out
                          obtain ⟨A3, c3, e3, g3f, r3f⟩ := (show RowI w9 s3 zs3 from ⟨_, hrow3⟩).form
                          subst e3
                          obtain ⟨n3, hn3⟩ : ∃ n3, n3 = zs3.length := ⟨_, rfl⟩
                          have N3 := Lib.hid hn3
                          have G3 := Lib.hid g3f
                          have R3 := Lib.hid r3f
                          have B9 := Lib.hid (B7.out.trans (hb9.mono B7.out.size))
                          have X9 := Lib.hid (X7.out.later hb9)
                          have R9 := Lib.hid (R7.out.kept (row := none) ⟨hb9.os, hb9.tape, hb9.output, hb9.size, fun k hk _ => hb9.block k hk⟩ (by simp [Value.ownBlock]))
                          rw [← hn3] at hn3b ⊢
                          clear hrow3 hzs3 hb9 g3f r3f hn3 y0 y1 y2 y3 CA3
                          go_wp2_with fail
                          go_loopw [23] (fun vi wk => NoM zs3 w9 vi wk) (fun vi _ => n3 - (intOf vi).toNat)
                          case atStart => exact ⟨0, rfl, Nat.zero_le _, rfl⟩
                          case round =>
                            obtain ⟨j, rfl, hj, rfl⟩ := hrel
                            rw [← N3.out] at hj
                            by_cases hlt : j < n3
                            · have hlz : (j : Int) < (n3 : Int) := by omega
                              have hj0 : (0 : Int) ≤ (j : Int) := by omega
                              have hjl : j < zs3.length := by rw [← N3.out]; exact hlt
                              obtain ⟨g3, e3⟩ := G3.out (by rw [← N3.out]; omega)
                              subst e3
                              obtain ⟨x, hx⟩ : ∃ x, x = zs3[j] := ⟨_, rfl⟩
                              have cx : w9.cell? ⟨g3, j, none⟩ = some (.int .i64 x) := by rw [hx]; exact R3.out g3 rfl w9 (Below.refl _ _) j hjl
                              have hxq : (x == (q : Int)) = false := by
                                rw [beq_eq_false_iff_ne]
                                intro e
                                exact NOQ.out (by rw [← e, hx]; exact List.getElem_mem hjl)
                              have HJL := Lib.hid (show j + 1 ≤ zs3.length from hjl)
                              clear hx hjl
                              go_wp2_with fail
                              go_roundw
                              case rel => exact ⟨j + 1, by go_num, HJL.out, rfl⟩
                              case measure => simp [intOf]; omega
                            · have hlz : ¬ (j : Int) < (n3 : Int) := by omega
                              have hctm : m ≤ ct := by
                                rcases R9.out.2 with ⟨e, _⟩ | ⟨g', c', cur, e, _, _, h5, _⟩
                                · cases e
                                · cases e
                                  have := R9.out.1
                                  unfold nmV at this
                                  rw [List.length_map, Nat.mul_one] at this
                                  rw [HM.out]; omega
                              have R9m := Lib.hid (show w9.ownsRow w.heap.size 3 1 (.slice (some ⟨gt, 0, none⟩) m ct) m (nmV th) by have := R9.out; rw [← HM.out] at this; exact this)
                              have hgt9 : gt < w9.heap.size := (R9m.out.lt gt rfl).2
                              have HND1 := Lib.hid HND.out.1
                              have MEM7 := Lib.hid (show ∀ q' ∈ th', q' < l.length ∧ may4 (gR l q') from fun q' hq' => FI.out.mem q' (by
                                rw [HTH.out] at hq'
                                rcases List.mem_append.1 hq' with h | h
                                · exact List.mem_of_mem_take h
                                · exact List.mem_of_mem_drop h))
                              clear hlt hj
                              obtain ⟨k1, hk1⟩ : ∃ k1, k1 = k + 1 := ⟨_, rfl⟩
                              have hk1z : (k : Int) + 1 = (k1 : Int) := by omega
                              have hk1m : k1 ≤ m := by omega
                              have hkct : k ≤ ct := by omega
                              have HK1 := Lib.hid hk1
                              have hw1 : IntKind.i64.wrap (k1 : Int) = (k1 : Int) := IntWalk.i64_in _ (by omega)
                              have hk1p : (0 : Int) ≤ (k1 : Int) := by omega
                              have hk1l : (k1 : Int) ≤ (m : Int) := by omega
                              clear hk1
                              by_cases hcm : ct = k1
                              · have hmk : m = k1 := by omega
                                subst hmk
                                subst hcm
                                go_wp2_with fail
                                refine wp_region_held_drew (S := (fun W : World => w9.heap.size ≤ W.heap.size)) (by kernel_rfl) (Nat.le_refl _) (fun hHeld => ?_)
                                refine wpAnyH_take (i := 1) (v := ?vB1) rfl (by kernel_rfl) (by kernel_rfl) (by kernel_rfl) (fun _ _ _ h => h) (Or.inl ⟨by rfl, ?yB1⟩) hHeld ?rB1
                                case yB1 => (intro W hSw; simp only [List.getElem_toArray, List.getElem_cons_succ, List.getElem_cons_zero]; go_simp; try (with_reducible rfl))
                                simp only [List.getElem_toArray, List.getElem_cons_succ, List.getElem_cons_zero, Act.put, List.setIfInBounds_toArray, List.set_cons_zero, List.set_cons_succ]
                                refine wpAnyH_take (i := 2) (v := ?vB2) rfl (by kernel_rfl) (by kernel_rfl) (by kernel_rfl) (fun _ _ _ h => h) (Or.inl ⟨by rfl, ?yB2⟩) hHeld ?rB2
                                case yB2 => (intro W hSw; simp only [List.getElem_toArray, List.getElem_cons_succ, List.getElem_cons_zero]; go_simp; try (with_reducible rfl))
                                simp only [List.getElem_toArray, List.getElem_cons_succ, List.getElem_cons_zero, Act.put, List.setIfInBounds_toArray, List.set_cons_zero, List.set_cons_succ]
                                refine wpAnyH_take (i := 3) (v := ?vB3) rfl (by kernel_rfl) (by kernel_rfl) (by kernel_rfl) (fun _ _ _ h => h) (Or.inl ⟨by rfl, ?yB3⟩) hHeld ?rB3
                                case yB3 => (intro W hSw; simp only [List.getElem_toArray, List.getElem_cons_succ, List.getElem_cons_zero]; go_simp; try (with_reducible rfl))
                                simp only [List.getElem_toArray, List.getElem_cons_succ, List.getElem_cons_zero, Act.put, List.setIfInBounds_toArray, List.set_cons_zero, List.set_cons_succ]
                                refine wpAnyH_take (i := 5) (v := ?vB5) rfl (by kernel_rfl) (by kernel_rfl) (by kernel_rfl) (fun _ _ _ h => h) (Or.inl ⟨by rfl, ?yB5⟩) hHeld ?rB5
                                case yB5 => (intro W hSw; simp only [List.getElem_toArray, List.getElem_cons_succ, List.getElem_cons_zero]; go_simp; try (with_reducible rfl))
                                simp only [List.getElem_toArray, List.getElem_cons_succ, List.getElem_cons_zero, Act.put, List.setIfInBounds_toArray, List.set_cons_zero, List.set_cons_succ]
                                refine wpAnyH_take (i := 6) (v := ?vB6) rfl (by kernel_rfl) (by kernel_rfl) (by kernel_rfl) (fun _ _ _ h => h) (Or.inl ⟨by rfl, ?yB6⟩) hHeld ?rB6
                                case yB6 => (intro W hSw; simp only [List.getElem_toArray, List.getElem_cons_succ, List.getElem_cons_zero]; go_simp; try (with_reducible rfl))
                                simp only [List.getElem_toArray, List.getElem_cons_succ, List.getElem_cons_zero, Act.put, List.setIfInBounds_toArray, List.set_cons_zero, List.set_cons_succ]
                                refine wpAnyH_take (i := 7) (v := ?vB7) rfl (by kernel_rfl) (by kernel_rfl) (by kernel_rfl) (fun _ _ _ h => h) (Or.inl ⟨by rfl, ?yB7⟩) hHeld ?rB7
                                case yB7 => (intro W hSw; simp only [List.getElem_toArray, List.getElem_cons_succ, List.getElem_cons_zero]; go_simp; try (with_reducible rfl))
                                simp only [List.getElem_toArray, List.getElem_cons_succ, List.getElem_cons_zero, Act.put, List.setIfInBounds_toArray, List.set_cons_zero, List.set_cons_succ]
                                refine wpAnyH_take (i := 8) (v := ?vB8) rfl (by kernel_rfl) (by kernel_rfl) (by kernel_rfl) (fun _ _ _ h => h) (Or.inl ⟨by rfl, ?yB8⟩) hHeld ?rB8
                                case yB8 => (intro W hSw; simp only [List.getElem_toArray, List.getElem_cons_succ, List.getElem_cons_zero]; go_simp; try (with_reducible rfl))
                                simp only [List.getElem_toArray, List.getElem_cons_succ, List.getElem_cons_zero, Act.put, List.setIfInBounds_toArray, List.set_cons_zero, List.set_cons_succ]
                                refine wpAnyH_ready (rs := [0]) (by kernel_rfl) (by simp) (AllReadyH.cons rfl (fun K hK => ?_) AllReadyH.nil)
                                simp only [List.getElem_toArray, List.getElem_cons_succ, List.getElem_cons_zero]
                                go_simp
                                obtain ⟨wA, hwA⟩ : ∃ v, v = (w9.alloc (.cells #[] 3)).drew := ⟨_, rfl⟩
                                rw [← hwA]
                                have BA9 := Lib.hid (show Below w9.heap.size w9 wA by rw [hwA]; exact ((Below.refl _ _).alloc (Nat.le_refl _) _).drew)
                                have EA := Lib.hid (show wA.ownsRow w9.heap.size 3 1 (.slice (some ⟨w9.heap.size, 0, none⟩) 0 0) 0 [] by rw [hwA]; exact (own_emptyI w9).drew)
                                have RA := Lib.hid (show wA.ownsRow w.heap.size 3 1 (.slice (some ⟨gt, 0, none⟩) ct ct) ct (nmV th) by rw [hwA]; exact (R9m.out.alloc _).drew)
                                clear hwA
                                have SA := Lib.hid BA9.out.size
                                obtain ⟨X7', hX7⟩ : ∃ X, X = nmV (th.take k) := ⟨_, rfl⟩
                                have LN7 := Lib.hid (show X7'.length = k * 1 by rw [hX7]; unfold nmV; rw [List.length_map, List.length_take]; have := HM.out; omega)
                                have NW7 := Lib.hid (show ∀ i u, X7'[i]? = some u → wA.cell? ((⟨gt, 0, none⟩ : Addr).add i) = some u from fun i u hu => by
                                  have hi := (List.getElem?_eq_some_iff.1 hu).1
                                  rw [LN7.out] at hi
                                  rw [addr_at, Nat.zero_add, RA.out.cellAt i (by omega)]
                                  rw [hX7] at hu
                                  unfold nmV at hu ⊢
                                  rw [List.getElem?_map, List.getElem?_take, if_pos (by omega)] at hu
                                  rw [List.getElem?_map]
                                  exact hu)
                                have ON7 := Lib.hid (show ∀ u ∈ X7', u.oneCell' = true by rw [hX7]; intro u hu; obtain ⟨x, _, rfl⟩ := List.mem_map.1 hu; rfl)
                                have HX7 := Lib.hid hX7
                                clear hX7
                                refine hK.out _ _ (by exact SA.out) (fun hHeld1 => ?_)
                                clear hK K hHeld
                                have hHeld := hHeld1; clear hHeld1
                                try simp only [List.getElem_toArray, List.getElem_cons_succ, List.getElem_cons_zero, Act.put, List.setIfInBounds_toArray, List.set_cons_zero, List.set_cons_succ]
                                refine wpAnyH_ready (rs := [4]) (by kernel_rfl) (by simp) (AllReadyH.cons rfl (fun K hK => ?_) AllReadyH.nil)
                                simp only [List.getElem_toArray, List.getElem_cons_succ, List.getElem_cons_zero]
                                refine wp_append_at (.tmp 171) (.tmp 174) 49 rfl w9.heap.size 3 i0 (.int .i64 0) 1 8 Tryz.underlying49 hi0 hz0 hz1 hz2 rfl (by decide) (.slice (some ⟨w9.heap.size, 0, none⟩) 0 0) 0 [] rfl EA.out ⟨gt, 0, none⟩ k ct X7' rfl LN7.out NW7.out ON7.out (by unfold maxLen; omega) (by omega) SA.out ?_
                                intro v10 wB hown10 hg10 ho10
                                have SB := Lib.hid (Nat.le_trans SA.out hg10.size)
                                have R10 := Lib.hid (show wB.ownsRow w9.heap.size 3 1 v10 k X7' by simpa using hown10)
                                have RB := Lib.hid (show wB.ownsRow w.heap.size 3 1 (.slice (some ⟨gt, 0, none⟩) ct ct) ct (nmV th) from RA.out.kept hg10 (by right; simp [Value.ownBlock]; omega))
                                have BB9 := Lib.hid (show Below w9.heap.size w9 wB from BA9.out.grown hg10 BA9.out.size (fun g' hg' => (EA.out.lt g' hg').1))
                                have LN9 := Lib.hid (show (nmV (th.drop ct)).length = (ct - ct) * 1 by unfold nmV; rw [List.length_map, List.length_drop]; have := HM.out; omega)
                                obtain ⟨X9', hX9⟩ : ∃ X, X = nmV (th.drop ct) := ⟨_, rfl⟩
                                rw [← hX9] at LN9
                                have NW9 := Lib.hid (show ∀ i u, X9'[i]? = some u → wB.cell? ((⟨gt, ct, none⟩ : Addr).add i) = some u from fun i u hu => by
                                  have hi := (List.getElem?_eq_some_iff.1 hu).1
                                  rw [LN9.out] at hi
                                  rw [addr_at, RB.out.cellAt (ct + i) (by omega)]
                                  rw [hX9] at hu
                                  unfold nmV at hu ⊢
                                  rw [List.getElem?_map, List.getElem?_drop] at hu
                                  rw [List.getElem?_map]
                                  exact hu)
                                have ON9 := Lib.hid (show ∀ u ∈ X9', u.oneCell' = true by rw [hX9]; intro u hu; obtain ⟨x, _, rfl⟩ := List.mem_map.1 hu; rfl)
                                have HX9 := Lib.hid hX9
                                clear hX9 hown10 hg10 ho10
                                refine hK.out _ _ (by exact SB.out) (fun hHeld1 => ?_)
                                clear hK K hHeld
                                have hHeld := hHeld1; clear hHeld1
                                try simp only [List.getElem_toArray, List.getElem_cons_succ, List.getElem_cons_zero, Act.put, List.setIfInBounds_toArray, List.set_cons_zero, List.set_cons_succ]
                                refine wpAnyH_ready (rs := [9]) (by kernel_rfl) (by simp) (AllReadyH.cons rfl (fun K hK => ?_) AllReadyH.nil)
                                simp only [List.getElem_toArray, List.getElem_cons_succ, List.getElem_cons_zero]
                                refine wp_append_at (.tmp 175) (.tmp 179) 49 rfl w9.heap.size 3 i0 (.int .i64 0) 1 8 Tryz.underlying49 hi0 hz0 hz1 hz2 rfl (by decide) v10 k X7' rfl R10.out ⟨gt, 0, none⟩ 0 0 X9' rfl (by rw [LN9.out]; simp) (fun i u hu => absurd (List.getElem?_eq_some_iff.1 hu).1 (by rw [LN9.out]; simp)) ON9.out (by unfold maxLen; omega) (by omega) SB.out ?_
                                intro v12 w12 hown12 hg12 ho12
                                have FI12 := Lib.hid (show Fi w l t n N l.length th' F7 v12 w12 ∧ th'.length + 1 = ct from by
                                  have hl' : th'.length + 1 = ct := by rw [HL7.out]; omega
                                  have iyB : Iy F7 t n (its l th') wB := X9.out.later BB9.out
                                  have nF : ∀ g', w9.heap.size ≤ g' → ¬ F7 g' := fun g' hg' hf => absurd (X9.out.lt hf) (by omega)
                                  refine ⟨⟨iyB.grown hg12 (fun g' hg' => nF g' (R10.out.lt g' hg').1), ?_, fun g' hg' => nF g' ?_, A7.out, (B9.out.trans (BB9.out.mono B9.out.size)).grown hg12 (Nat.le_trans B9.out.size SB.out) (fun g' hg' => Nat.le_trans B9.out.size (R10.out.lt g' hg').1), HND1.out, fun q' hq' => MEM7.out q' hq', ?_⟩, hl'⟩
                                  · have h1 : w12.ownsRow w9.heap.size 3 1 v12 (k + 0) (X7' ++ X9') := hown12
                                    have h2 : k + 0 = th'.length := by have := HK1.out; omega
                                    have h3 : X7' ++ X9' = nmV th' := by rw [HX7.out, HX9.out, HTH.out, HK1.out]; unfold nmV; rw [List.map_append]
                                    rw [h2, h3] at h1
                                    exact own_base h1 B9.out.size
                                  · rcases ho12 with h | h
                                    · rw [h] at hg'; exact (R10.out.lt g' hg').1
                                    · rw [h] at hg'
                                      have : wB.heap.size = g' := by simpa using hg'
                                      have := SB.out
                                      omega
                                  · have := FI.out.few
                                    have := HM.out
                                    omega)
                                have SC := Lib.hid (Nat.le_trans SB.out hg12.size)
                                clear hown12 hg12 ho12
                                refine hK.out _ _ (by exact SC.out) (fun hHeld1 => ?_)
                                clear hK K hHeld
                                have hHeld := hHeld1; clear hHeld1
                                try simp only [List.getElem_toArray, List.getElem_cons_succ, List.getElem_cons_zero, Act.put, List.setIfInBounds_toArray, List.set_cons_zero, List.set_cons_succ]
                                refine wpAnyH_take (i := 10) (v := ?vBz10) rfl (by kernel_rfl) (by kernel_rfl) (by kernel_rfl) (fun _ _ _ h => h) (Or.inl ⟨by rfl, ?yBz10⟩) hHeld ?rBz10
                                case yBz10 => (intro W hSw; simp only [List.getElem_toArray, List.getElem_cons_succ, List.getElem_cons_zero]; go_simp; try (with_reducible rfl))
                                simp only [List.getElem_toArray, List.getElem_cons_succ, List.getElem_cons_zero, Act.put, List.setIfInBounds_toArray, List.set_cons_zero, List.set_cons_succ]
                                clear hHeld
                                refine wpAnyH_done (by kernel_rfl) ?_ _
                                obtain ⟨m', hm'⟩ : ∃ m', m' = th'.length := ⟨_, rfl⟩
                                have HML := Lib.hid (show m' + 1 = ct by rw [hm']; exact FI12.out.2)
                                obtain ⟨a12, c12, e12⟩ : ∃ a c, v12 = .slice a m' c := by
                                  rcases FI12.out.1.row.2 with ⟨e, e2⟩ | ⟨g', c', cur, e, _⟩
                                  · exact ⟨none, 0, by rw [hm', e2]; exact e⟩
                                  · exact ⟨_, c', by rw [hm']; exact e⟩
                                subst e12
                                have CA12 := Lib.hid (ix_amiss FI12.out.1.iy.ix h1 h2 LTI7.out)
                                rw [HNO.out] at CA12
                                unfold ptr at CA12
                                have FZ := Lib.hid FI12.out.1
                                obtain ⟨r16, hr16⟩ : ∃ r16 : Nat, r16 = m' % 16 := ⟨_, rfl⟩
                                have ht16 : Int.tmod (m' : Int) 16 = (r16 : Int) := by rw [hr16]; rfl
                                clear hm' hr16
                                by_cases h16 : r16 = 0
                                · have hb16 : ((r16 : Int) == 0) = true := by simp; omega
                                  go_wp2_with fail
                                  refine Calls.mono CA12.out ?_
                                  rintro e w13 ⟨rfl, hb13⟩
                                  have FY := Lib.hid (FZ.out.later hb13)
                                  clear hb13
                                  go_wp2_with fail
                                  go_roundw
                                  case rel => first | exact ⟨th', F7, FY.out⟩ | ((repeat apply Exists.intro); exact ⟨⟨th', F7, FY.out⟩, rfl⟩)
                                  case measure => have := HML.out; simp [lenOf']; omega
                                · have hb16 : ((r16 : Int) == 0) = false := by simp; omega
                                  go_wp2_with fail
                                  go_roundw
                                  case rel => first | exact ⟨th', F7, FZ.out⟩ | ((repeat apply Exists.intro); exact ⟨⟨th', F7, FZ.out⟩, rfl⟩)
                                  case measure => have := HML.out; simp [lenOf']; omega

                              · have hkc : k1 ≤ ct := by omega
                                go_wp2_with fail
                                refine wp_region_held_drew (S := (fun W : World => w9.heap.size ≤ W.heap.size)) (by kernel_rfl) (Nat.le_refl _) (fun hHeld => ?_)
                                refine wpAnyH_take (i := 1) (v := ?vA1) rfl (by kernel_rfl) (by kernel_rfl) (by kernel_rfl) (fun _ _ _ h => h) (Or.inl ⟨by rfl, ?yA1⟩) hHeld ?rA1
                                case yA1 => (intro W hSw; simp only [List.getElem_toArray, List.getElem_cons_succ, List.getElem_cons_zero]; go_simp; try (with_reducible rfl))
                                simp only [List.getElem_toArray, List.getElem_cons_succ, List.getElem_cons_zero, Act.put, List.setIfInBounds_toArray, List.set_cons_zero, List.set_cons_succ]
                                refine wpAnyH_take (i := 2) (v := ?vA2) rfl (by kernel_rfl) (by kernel_rfl) (by kernel_rfl) (fun _ _ _ h => h) (Or.inl ⟨by rfl, ?yA2⟩) hHeld ?rA2
                                case yA2 => (intro W hSw; simp only [List.getElem_toArray, List.getElem_cons_succ, List.getElem_cons_zero]; go_simp; try (with_reducible rfl))
                                simp only [List.getElem_toArray, List.getElem_cons_succ, List.getElem_cons_zero, Act.put, List.setIfInBounds_toArray, List.set_cons_zero, List.set_cons_succ]
                                refine wpAnyH_take (i := 3) (v := ?vA3) rfl (by kernel_rfl) (by kernel_rfl) (by kernel_rfl) (fun _ _ _ h => h) (Or.inl ⟨by rfl, ?yA3⟩) hHeld ?rA3
                                case yA3 => (intro W hSw; simp only [List.getElem_toArray, List.getElem_cons_succ, List.getElem_cons_zero]; go_simp; try (with_reducible rfl))
                                simp only [List.getElem_toArray, List.getElem_cons_succ, List.getElem_cons_zero, Act.put, List.setIfInBounds_toArray, List.set_cons_zero, List.set_cons_succ]
                                refine wpAnyH_take (i := 5) (v := ?vA5) rfl (by kernel_rfl) (by kernel_rfl) (by kernel_rfl) (fun _ _ _ h => h) (Or.inl ⟨by rfl, ?yA5⟩) hHeld ?rA5
                                case yA5 => (intro W hSw; simp only [List.getElem_toArray, List.getElem_cons_succ, List.getElem_cons_zero]; go_simp; try (with_reducible rfl))
                                simp only [List.getElem_toArray, List.getElem_cons_succ, List.getElem_cons_zero, Act.put, List.setIfInBounds_toArray, List.set_cons_zero, List.set_cons_succ]
                                refine wpAnyH_take (i := 6) (v := ?vA6) rfl (by kernel_rfl) (by kernel_rfl) (by kernel_rfl) (fun _ _ _ h => h) (Or.inl ⟨by rfl, ?yA6⟩) hHeld ?rA6
                                case yA6 => (intro W hSw; simp only [List.getElem_toArray, List.getElem_cons_succ, List.getElem_cons_zero]; go_simp; try (with_reducible rfl))
                                simp only [List.getElem_toArray, List.getElem_cons_succ, List.getElem_cons_zero, Act.put, List.setIfInBounds_toArray, List.set_cons_zero, List.set_cons_succ]
                                refine wpAnyH_take (i := 7) (v := ?vA7) rfl (by kernel_rfl) (by kernel_rfl) (by kernel_rfl) (fun _ _ _ h => h) (Or.inl ⟨by rfl, ?yA7⟩) hHeld ?rA7
                                case yA7 => (intro W hSw; simp only [List.getElem_toArray, List.getElem_cons_succ, List.getElem_cons_zero]; go_simp; try (with_reducible rfl))
                                simp only [List.getElem_toArray, List.getElem_cons_succ, List.getElem_cons_zero, Act.put, List.setIfInBounds_toArray, List.set_cons_zero, List.set_cons_succ]
                                refine wpAnyH_take (i := 8) (v := ?vA8) rfl (by kernel_rfl) (by kernel_rfl) (by kernel_rfl) (fun _ _ _ h => h) (Or.inl ⟨by rfl, ?yA8⟩) hHeld ?rA8
                                case yA8 => (intro W hSw; simp only [List.getElem_toArray, List.getElem_cons_succ, List.getElem_cons_zero]; go_simp; try (with_reducible rfl))
                                simp only [List.getElem_toArray, List.getElem_cons_succ, List.getElem_cons_zero, Act.put, List.setIfInBounds_toArray, List.set_cons_zero, List.set_cons_succ]
                                refine wpAnyH_ready (rs := [0]) (by kernel_rfl) (by simp) (AllReadyH.cons rfl (fun K hK => ?_) AllReadyH.nil)
                                simp only [List.getElem_toArray, List.getElem_cons_succ, List.getElem_cons_zero]
                                go_simp
                                obtain ⟨wA, hwA⟩ : ∃ v, v = (w9.alloc (.cells #[] 3)).drew := ⟨_, rfl⟩
                                rw [← hwA]
                                have BA9 := Lib.hid (show Below w9.heap.size w9 wA by rw [hwA]; exact ((Below.refl _ _).alloc (Nat.le_refl _) _).drew)
                                have EA := Lib.hid (show wA.ownsRow w9.heap.size 3 1 (.slice (some ⟨w9.heap.size, 0, none⟩) 0 0) 0 [] by rw [hwA]; exact (own_emptyI w9).drew)
                                have RA := Lib.hid (show wA.ownsRow w.heap.size 3 1 (.slice (some ⟨gt, 0, none⟩) m ct) m (nmV th) by rw [hwA]; exact (R9m.out.alloc _).drew)
                                clear hwA
                                have SA := Lib.hid BA9.out.size
                                obtain ⟨X7', hX7⟩ : ∃ X, X = nmV (th.take k) := ⟨_, rfl⟩
                                have LN7 := Lib.hid (show X7'.length = k * 1 by rw [hX7]; unfold nmV; rw [List.length_map, List.length_take]; have := HM.out; omega)
                                have NW7 := Lib.hid (show ∀ i u, X7'[i]? = some u → wA.cell? ((⟨gt, 0, none⟩ : Addr).add i) = some u from fun i u hu => by
                                  have hi := (List.getElem?_eq_some_iff.1 hu).1
                                  rw [LN7.out] at hi
                                  rw [addr_at, Nat.zero_add, RA.out.cellAt i (by omega)]
                                  rw [hX7] at hu
                                  unfold nmV at hu ⊢
                                  rw [List.getElem?_map, List.getElem?_take, if_pos (by omega)] at hu
                                  rw [List.getElem?_map]
                                  exact hu)
                                have ON7 := Lib.hid (show ∀ u ∈ X7', u.oneCell' = true by rw [hX7]; intro u hu; obtain ⟨x, _, rfl⟩ := List.mem_map.1 hu; rfl)
                                have HX7 := Lib.hid hX7
                                clear hX7
                                refine hK.out _ _ (by exact SA.out) (fun hHeld1 => ?_)
                                clear hK K hHeld
                                have hHeld := hHeld1; clear hHeld1
                                try simp only [List.getElem_toArray, List.getElem_cons_succ, List.getElem_cons_zero, Act.put, List.setIfInBounds_toArray, List.set_cons_zero, List.set_cons_succ]
                                refine wpAnyH_ready (rs := [4]) (by kernel_rfl) (by simp) (AllReadyH.cons rfl (fun K hK => ?_) AllReadyH.nil)
                                simp only [List.getElem_toArray, List.getElem_cons_succ, List.getElem_cons_zero]
                                refine wp_append_at (.tmp 171) (.tmp 174) 49 rfl w9.heap.size 3 i0 (.int .i64 0) 1 8 Tryz.underlying49 hi0 hz0 hz1 hz2 rfl (by decide) (.slice (some ⟨w9.heap.size, 0, none⟩) 0 0) 0 [] rfl EA.out ⟨gt, 0, none⟩ k ct X7' rfl LN7.out NW7.out ON7.out (by unfold maxLen; omega) (by omega) SA.out ?_
                                intro v10 wB hown10 hg10 ho10
                                have SB := Lib.hid (Nat.le_trans SA.out hg10.size)
                                have R10 := Lib.hid (show wB.ownsRow w9.heap.size 3 1 v10 k X7' by simpa using hown10)
                                have RB := Lib.hid (show wB.ownsRow w.heap.size 3 1 (.slice (some ⟨gt, 0, none⟩) m ct) m (nmV th) from RA.out.kept hg10 (by right; simp [Value.ownBlock]; omega))
                                have BB9 := Lib.hid (show Below w9.heap.size w9 wB from BA9.out.grown hg10 BA9.out.size (fun g' hg' => (EA.out.lt g' hg').1))
                                have LN9 := Lib.hid (show (nmV (th.drop k1)).length = (m - k1) * 1 by unfold nmV; rw [List.length_map, List.length_drop]; have := HM.out; omega)
                                obtain ⟨X9', hX9⟩ : ∃ X, X = nmV (th.drop k1) := ⟨_, rfl⟩
                                rw [← hX9] at LN9
                                have NW9 := Lib.hid (show ∀ i u, X9'[i]? = some u → wB.cell? ((⟨gt, k1, none⟩ : Addr).add i) = some u from fun i u hu => by
                                  have hi := (List.getElem?_eq_some_iff.1 hu).1
                                  rw [LN9.out] at hi
                                  rw [addr_at, RB.out.cellAt (k1 + i) (by omega)]
                                  rw [hX9] at hu
                                  unfold nmV at hu ⊢
                                  rw [List.getElem?_map, List.getElem?_drop] at hu
                                  rw [List.getElem?_map]
                                  exact hu)
                                have ON9 := Lib.hid (show ∀ u ∈ X9', u.oneCell' = true by rw [hX9]; intro u hu; obtain ⟨x, _, rfl⟩ := List.mem_map.1 hu; rfl)
                                have HX9 := Lib.hid hX9
                                clear hX9 hown10 hg10 ho10
                                refine hK.out _ _ (by exact SB.out) (fun hHeld1 => ?_)
                                clear hK K hHeld
                                have hHeld := hHeld1; clear hHeld1
                                try simp only [List.getElem_toArray, List.getElem_cons_succ, List.getElem_cons_zero, Act.put, List.setIfInBounds_toArray, List.set_cons_zero, List.set_cons_succ]
                                refine wpAnyH_ready (rs := [9]) (by kernel_rfl) (by simp) (AllReadyH.cons rfl (fun K hK => ?_) AllReadyH.nil)
                                simp only [List.getElem_toArray, List.getElem_cons_succ, List.getElem_cons_zero]
                                refine wp_append_at (.tmp 175) (.tmp 179) 49 rfl w9.heap.size 3 i0 (.int .i64 0) 1 8 Tryz.underlying49 hi0 hz0 hz1 hz2 rfl (by decide) v10 k X7' rfl R10.out ⟨gt, k1, none⟩ (m - k1) (ct - k1) X9' rfl LN9.out NW9.out ON9.out (by unfold maxLen; omega) (by omega) SB.out ?_
                                intro v12 w12 hown12 hg12 ho12
                                have FI12 := Lib.hid (show Fi w l t n N l.length th' F7 v12 w12 ∧ th'.length + 1 = m from by
                                  have hl' : th'.length + 1 = m := by rw [HL7.out]; omega
                                  have iyB : Iy F7 t n (its l th') wB := X9.out.later BB9.out
                                  have nF : ∀ g', w9.heap.size ≤ g' → ¬ F7 g' := fun g' hg' hf => absurd (X9.out.lt hf) (by omega)
                                  refine ⟨⟨iyB.grown hg12 (fun g' hg' => nF g' (R10.out.lt g' hg').1), ?_, fun g' hg' => nF g' ?_, A7.out, (B9.out.trans (BB9.out.mono B9.out.size)).grown hg12 (Nat.le_trans B9.out.size SB.out) (fun g' hg' => Nat.le_trans B9.out.size (R10.out.lt g' hg').1), HND1.out, fun q' hq' => MEM7.out q' hq', ?_⟩, hl'⟩
                                  · have h1 : w12.ownsRow w9.heap.size 3 1 v12 (k + (m - k1)) (X7' ++ X9') := hown12
                                    have h2 : k + (m - k1) = th'.length := by have := HK1.out; omega
                                    have h3 : X7' ++ X9' = nmV th' := by rw [HX7.out, HX9.out, HTH.out, HK1.out]; unfold nmV; rw [List.map_append]
                                    rw [h2, h3] at h1
                                    exact own_base h1 B9.out.size
                                  · rcases ho12 with h | h
                                    · rw [h] at hg'; exact (R10.out.lt g' hg').1
                                    · rw [h] at hg'
                                      have : wB.heap.size = g' := by simpa using hg'
                                      have := SB.out
                                      omega
                                  · have := FI.out.few
                                    have := HM.out
                                    omega)
                                have SC := Lib.hid (Nat.le_trans SB.out hg12.size)
                                clear hown12 hg12 ho12
                                refine hK.out _ _ (by exact SC.out) (fun hHeld1 => ?_)
                                clear hK K hHeld
                                have hHeld := hHeld1; clear hHeld1
                                try simp only [List.getElem_toArray, List.getElem_cons_succ, List.getElem_cons_zero, Act.put, List.setIfInBounds_toArray, List.set_cons_zero, List.set_cons_succ]
                                refine wpAnyH_take (i := 10) (v := ?vAz10) rfl (by kernel_rfl) (by kernel_rfl) (by kernel_rfl) (fun _ _ _ h => h) (Or.inl ⟨by rfl, ?yAz10⟩) hHeld ?rAz10
                                case yAz10 => (intro W hSw; simp only [List.getElem_toArray, List.getElem_cons_succ, List.getElem_cons_zero]; go_simp; try (with_reducible rfl))
                                simp only [List.getElem_toArray, List.getElem_cons_succ, List.getElem_cons_zero, Act.put, List.setIfInBounds_toArray, List.set_cons_zero, List.set_cons_succ]
                                clear hHeld
                                refine wpAnyH_done (by kernel_rfl) ?_ _
                                obtain ⟨m', hm'⟩ : ∃ m', m' = th'.length := ⟨_, rfl⟩
                                have HML := Lib.hid (show m' + 1 = m by rw [hm']; exact FI12.out.2)
                                obtain ⟨a12, c12, e12⟩ : ∃ a c, v12 = .slice a m' c := by
                                  rcases FI12.out.1.row.2 with ⟨e, e2⟩ | ⟨g', c', cur, e, _⟩
                                  · exact ⟨none, 0, by rw [hm', e2]; exact e⟩
                                  · exact ⟨_, c', by rw [hm']; exact e⟩
                                subst e12
                                have CA12 := Lib.hid (ix_amiss FI12.out.1.iy.ix h1 h2 LTI7.out)
                                rw [HNO.out] at CA12
                                unfold ptr at CA12
                                have FZ := Lib.hid FI12.out.1
                                obtain ⟨r16, hr16⟩ : ∃ r16 : Nat, r16 = m' % 16 := ⟨_, rfl⟩
                                have ht16 : Int.tmod (m' : Int) 16 = (r16 : Int) := by rw [hr16]; rfl
                                clear hm' hr16
                                by_cases h16 : r16 = 0
                                · have hb16 : ((r16 : Int) == 0) = true := by simp; omega
                                  go_wp2_with fail
                                  refine Calls.mono CA12.out ?_
                                  rintro e w13 ⟨rfl, hb13⟩
                                  have FY := Lib.hid (FZ.out.later hb13)
                                  clear hb13
                                  go_wp2_with fail
                                  go_roundw
                                  case rel => first | exact ⟨th', F7, FY.out⟩ | ((repeat apply Exists.intro); exact ⟨⟨th', F7, FY.out⟩, rfl⟩)
                                  case measure => have := HML.out; simp [lenOf']; omega
                                · have hb16 : ((r16 : Int) == 0) = false := by simp; omega
                                  go_wp2_with fail
                                  go_roundw
                                  case rel => first | exact ⟨th', F7, FZ.out⟩ | ((repeat apply Exists.intro); exact ⟨⟨th', F7, FZ.out⟩, rfl⟩)
                                  case measure => have := HML.out; simp [lenOf']; omega
                        · exfalso
                          obtain ⟨q', hq', e⟩ := its_in.1 hin
                          have : q' = q := by omega
                          subst this
                          exact HND.out.2 hq'
end Go.Proofs.YtobkgamcjfjghaaGreat.Rt
