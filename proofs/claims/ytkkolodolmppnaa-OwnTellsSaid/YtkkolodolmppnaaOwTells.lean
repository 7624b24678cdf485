/-
  The walk of the statement OwnTells: whatever shift, brokers, point and rectangle it is given, it returns true, and memory that was there is left as it was.
-/
import Derived.Test.YtkkolodolmppnaaOwUp
import Derived.Test.YtkkolodolmppnaaOwRef
import Derived.Test.YtkkolodolmppnaaRcMidA
namespace Go.Proofs.Ytkkolodolmppnaa.Ow
open Go.RowKit Go.Proofs.Ytkkolodolmppnaa.Pt Go.Proofs.Ytkkolodolmppnaa.Rc Go.Proofs.Ytkkolodolmppnaa.Mo Go.Proofs.Ytkkolodolmppnaa.Cv
set_option linter.unusedVariables false
set_option linter.unusedSimpArgs false

theorem neq_rr (w : World) : (binOp .neq 31 (.iface 37 (.int .i64 11)) (.iface 37 (.int .i64 11))).run Try.prog w = .ok (.bool false) w := by kernel_rfl
def LpR (W : World) (n : Nat) (vi : Value) (wr : World) : Prop := ∃ j q : Nat, vi = .int .i64 j ∧ j ≤ n ∧ wr = W.drewN q

set_option maxHeartbeats 4000000 in
set_option maxRecDepth 100000 in
theorem tells_arg (s b x y x1 y1 x2 y2 : Int) (w : World) (h : (shB s && brB b) = false) : Calls Try.prog 3 #[.int .i64 s, .int .i64 b, .agg #[.int .i64 x, .int .i64 y], .agg #[.int .i64 x1, .int .i64 y1, .int .i64 x2, .int .i64 y2]] w fun e w' => e = .returned (.bool true) ∧ Below w.heap.size w w' := by
  have CS := Lib.hid (fun W => refShift_any s W)
  have CM := Lib.hid (fun W => Pt.refMay_any x y W)
  have CR := Lib.hid (fun W => refRect_any x1 y1 x2 y2 W)
  have C1 := Lib.hid (fun W => of_arg s b x y W h)
  have C2 := Lib.hid (fun W => all_arg s b x1 y1 x2 y2 W h)
  have r1 := eql_arg
  obtain ⟨pm, epm⟩ : ∃ pm, pm = mayB x y := ⟨_, rfl⟩
  rw [← epm] at CM
  obtain ⟨rm, erm⟩ : ∃ rm, rm = rmayB x1 y1 x2 y2 := ⟨_, rfl⟩
  rw [← erm] at CR
  have hcase : (∃ t, shB s = t ∧ t = false) ∨ (shB s = true ∧ b < 1) ∨ (shB s = true ∧ ¬ b < 1 ∧ b > 64) := by
    cases hs : shB s
    · exact Or.inl ⟨_, rfl, rfl⟩
    · rw [hs, Bool.true_and] at h
      rcases brB_no h with h1 | h1
      · exact Or.inr (Or.inl ⟨rfl, h1⟩)
      · exact Or.inr (Or.inr ⟨rfl, by omega, h1⟩)
  clear h epm erm
  rcases hcase with ⟨t, hs, ht⟩ | ⟨hs, hb⟩ | ⟨hs, hb, hb2⟩
  all_goals
    rw [hs] at CS
    try subst ht
    clear hs
    have L0 := (fun h => Kp.add0 h w.heap.size rfl (.int .i64 x) (.int .i64 y) 23) ⟨Nat.le_refl _, Below.refl w.heap.size w⟩
    have L1 := (Kp.two (Kp.behind _ (.cells #[.int .i64 x1, .int .i64 y1, .int .i64 x2, .int .i64 y2] 25)) (fun h => Kp.adq0 h (w.heap.size + 1) (by simp) (.int .i64 x1) (.int .i64 y1) (.int .i64 x2) (.int .i64 y2) 25)) L0
    have L := Lib.hid L1
    clear L0 L1
    have z := L.out
    go_enter Try.func3, Try.ntmps3
    go_wp2_with fail
    refine (up_any _).mono ?_
    rintro e w1 ⟨rfl, hb1⟩
    have K1 := Lib.hid ((Kp.two hb1 (Kp.two hb1 (Kp.two hb1 (Kp.ends hb1)))) L.out)
    clear hb1 z L
    have z1 := K1.out
    go_wp2_with fail
    refine (CS.out _).mono ?_
    rintro e w9 ⟨rfl, rfl⟩
    go_wp2_with fail
    refine (CM.out _).mono ?_
    rintro e w2 ⟨rfl, hb2⟩
    have K2 := Lib.hid ((Kp.two hb2 (Kp.two hb2 (Kp.two hb2 (Kp.ends hb2)))) K1.out)
    clear hb2 z1 K1
    have z2 := K2.out
    go_wp2_with fail
    refine (CR.out _).mono ?_
    rintro e w3 ⟨rfl, hb3⟩
    have K3 := Lib.hid ((Kp.two hb3 (Kp.two hb3 (Kp.two hb3 (Kp.ends hb3)))) K2.out)
    clear hb3 z2 K2
    have z3 := K3.out
    go_wp2_with fail
    refine (C1.out _).mono ?_
    rintro e w4 ⟨rfl, hb4⟩
    have K4 := Lib.hid ((Kp.two hb4 (Kp.two hb4 (Kp.two hb4 (Kp.ends hb4)))) K3.out)
    clear hb4 z3 K3
    have z4 := K4.out
    go_wp2_with fail
    refine (C2.out _).mono ?_
    rintro e w5 ⟨rfl, hb5⟩
    have K5 := Lib.hid ((Kp.two hb5 (Kp.two hb5 (Kp.two hb5 (Kp.ends hb5)))) K4.out)
    clear hb5 z4 K4
    have z5 := K5.out
    go_wp2_with fail
    go_ret
    exact ⟨by simp, K5.out.2.2.2.2.2.2.2⟩

set_option maxHeartbeats 4000000 in
set_option maxRecDepth 100000 in
theorem tells_00 (k b : Nat) (x y x1 y1 x2 y2 : Int) (w : World) (h1 : 24 ≤ k) (h2 : k ≤ 31) (h3 : 1 ≤ b) (h4 : b ≤ 64) (hm : mayB x y = false) (hr : rmayB x1 y1 x2 y2 = false) : Calls Try.prog 3 #[.int .i64 k, .int .i64 b, .agg #[.int .i64 x, .int .i64 y], .agg #[.int .i64 x1, .int .i64 y1, .int .i64 x2, .int .i64 y2]] w fun e w' => e = .returned (.bool true) ∧ Below w.heap.size w w' := by
  have CS := Lib.hid (fun W => refShift_any k W)
  rw [shB_of h1 h2] at CS
  have CM := Lib.hid (fun W => Pt.refMay_any x y W)
  have CR := Lib.hid (fun W => refRect_any x1 y1 x2 y2 W)
  rw [hm] at CM
  rw [hr] at CR
  have r1 := eql_arg
  have r2 := neq_rr
  have r3 := neq_nil_nil
  have hb1 : ¬ (b : Int) < 1 := by omega
  have hb2 : ¬ (b : Int) > 64 := by omega
  have C1 := Lib.hid (fun W => of_far k b x y W h1 h2 h3 h4 hm)
  have C2 := Lib.hid (fun W => all_far k b x1 y1 x2 y2 W h1 h2 h3 h4 hr)
  clear hm hr h1 h2 h3 h4
  have L0 := (fun h => Kp.add0 h w.heap.size rfl (.int .i64 x) (.int .i64 y) 23) ⟨Nat.le_refl _, Below.refl w.heap.size w⟩
  have L1 := (Kp.two (Kp.behind _ (.cells #[.int .i64 x1, .int .i64 y1, .int .i64 x2, .int .i64 y2] 25)) (fun h => Kp.adq0 h (w.heap.size + 1) (by simp) (.int .i64 x1) (.int .i64 y1) (.int .i64 x2) (.int .i64 y2) 25)) L0
  have L := Lib.hid L1
  clear L0 L1
  have z := L.out
  go_enter Try.func3, Try.ntmps3
  go_wp2_with fail
  refine (up_any _).mono ?_
  rintro e w1 ⟨rfl, hb1⟩
  have K1 := Lib.hid ((Kp.two hb1 (Kp.two hb1 (Kp.two hb1 (Kp.ends hb1)))) L.out)
  clear hb1 z L
  have z1 := K1.out
  go_wp2_with fail
  refine (CS.out _).mono ?_
  rintro e w9 ⟨rfl, rfl⟩
  go_wp2_with fail
  refine (CM.out _).mono ?_
  rintro e w2 ⟨rfl, hb2⟩
  have K2 := Lib.hid ((Kp.two hb2 (Kp.two hb2 (Kp.two hb2 (Kp.ends hb2)))) K1.out)
  clear hb2 z1 K1
  have z2 := K2.out
  go_wp2_with fail
  refine (CR.out _).mono ?_
  rintro e w3 ⟨rfl, hb3⟩
  have K3 := Lib.hid ((Kp.two hb3 (Kp.two hb3 (Kp.two hb3 (Kp.ends hb3)))) K2.out)
  clear hb3 z2 K2
  have z3 := K3.out
  go_wp2_with fail
  refine (C1.out _).mono ?_
  rintro e w4 ⟨rfl, hb4⟩
  have K4 := Lib.hid ((Kp.two hb4 (Kp.two hb4 (Kp.two hb4 (Kp.ends hb4)))) K3.out)
  clear hb4 z3 K3
  have z4 := K4.out
  go_wp2_with fail
  refine (C2.out _).mono ?_
  rintro e w5 ⟨rfl, hb5⟩
  have K5 := Lib.hid ((Kp.two hb5 (Kp.two hb5 (Kp.two hb5 (Kp.ends hb5)))) K4.out)
  clear hb5 z4 K4
  have z5 := K5.out
  go_wp2_with fail
  go_ret
  exact ⟨by simp, K5.out.2.2.2.2.2.2.2⟩

set_option maxHeartbeats 4000000 in
set_option maxRecDepth 100000 in
theorem tells_01 (k b : Nat) (x y x1 y1 x2 y2 : Int) (w : World) (h1 : 24 ≤ k) (h2 : k ≤ 31) (h3 : 1 ≤ b) (h4 : b ≤ 64) (hm : mayB x y = false) (hr : rmayB x1 y1 x2 y2 = true) : Calls Try.prog 3 #[.int .i64 k, .int .i64 b, .agg #[.int .i64 x, .int .i64 y], .agg #[.int .i64 x1, .int .i64 y1, .int .i64 x2, .int .i64 y2]] w fun e w' => e = .returned (.bool true) ∧ Below w.heap.size w w' := by
  have CS := Lib.hid (fun W => refShift_any k W)
  rw [shB_of h1 h2] at CS
  have CM := Lib.hid (fun W => Pt.refMay_any x y W)
  have CR := Lib.hid (fun W => refRect_any x1 y1 x2 y2 W)
  rw [hm] at CM
  rw [hr] at CR
  have r1 := eql_arg
  have r2 := neq_rr
  have r3 := neq_nil_nil
  have hb1 : ¬ (b : Int) < 1 := by omega
  have hb2 : ¬ (b : Int) > 64 := by omega
  have C1 := Lib.hid (fun W => of_far k b x y W h1 h2 h3 h4 hm)
  obtain ⟨c1, r1', c2, r2', e1, e2, e3, e4, l1, l2, l3, l4⟩ := rect_lst h1 h2 hr
  have C2 := Lib.hid (fun W => all_yes k b x1 y1 x2 y2 c1 r1' c2 r2' W h1 h2 h3 h4 hr e1 e2 e3 e4 l1 l2 l3 l4)
  have C4 := Lib.hid (fun W => refAll_any k b x1 y1 x2 y2 c1 r1' c2 r2' W h1 h2 h3 h4 hr e1 e2 e3 e4 l1 l2 l3 l4)
  have HL := Lib.hid (And.intro l1 l2)
  obtain ⟨g, eg⟩ : ∃ g, g = gF k := ⟨_, rfl⟩
  rw [← eg] at C2 C4
  clear e1 e2 e3 e4 l1 l2 l3 l4 eg
  clear hm hr h1 h2 h3 h4
  have L0 := (fun h => Kp.add0 h w.heap.size rfl (.int .i64 x) (.int .i64 y) 23) ⟨Nat.le_refl _, Below.refl w.heap.size w⟩
  have L1 := (Kp.two (Kp.behind _ (.cells #[.int .i64 x1, .int .i64 y1, .int .i64 x2, .int .i64 y2] 25)) (fun h => Kp.adq0 h (w.heap.size + 1) (by simp) (.int .i64 x1) (.int .i64 y1) (.int .i64 x2) (.int .i64 y2) 25)) L0
  have L := Lib.hid L1
  clear L0 L1
  have z := L.out
  go_enter Try.func3, Try.ntmps3
  go_wp2_with fail
  refine (up_any _).mono ?_
  rintro e w1 ⟨rfl, hb1⟩
  have K1 := Lib.hid ((Kp.two hb1 (Kp.two hb1 (Kp.two hb1 (Kp.ends hb1)))) L.out)
  clear hb1 z L
  have z1 := K1.out
  go_wp2_with fail
  refine (CS.out _).mono ?_
  rintro e w9 ⟨rfl, rfl⟩
  go_wp2_with fail
  refine (CM.out _).mono ?_
  rintro e w2 ⟨rfl, hb2⟩
  have K2 := Lib.hid ((Kp.two hb2 (Kp.two hb2 (Kp.two hb2 (Kp.ends hb2)))) K1.out)
  clear hb2 z1 K1
  have z2 := K2.out
  go_wp2_with fail
  refine (CR.out _).mono ?_
  rintro e w3 ⟨rfl, hb3⟩
  have K3 := Lib.hid ((Kp.two hb3 (Kp.two hb3 (Kp.two hb3 (Kp.ends hb3)))) K2.out)
  clear hb3 z2 K2
  have z3 := K3.out
  go_wp2_with fail
  refine (C1.out _).mono ?_
  rintro e w4 ⟨rfl, hb4⟩
  have K4 := Lib.hid ((Kp.two hb4 (Kp.two hb4 (Kp.two hb4 (Kp.ends hb4)))) K3.out)
  clear hb4 z3 K3
  have z4 := K4.out
  go_wp2_with fail
  refine (C2.out _).mono ?_
  rintro e w5 hA5
  unfold AllE at hA5
  obtain ⟨u1, zs, rfl, hz1, hmm1, hln, hrd, hb5⟩ := hA5
  obtain ⟨b1, cap1, rfl, hbl1, hcl1⟩ := hrd
  have HCL := Lib.hid hcl1
  have HZ1 := Lib.hid (And.intro hz1 hmm1)
  have HBL := Lib.hid hbl1
  obtain ⟨n, en⟩ : ∃ n, n = zs.length := ⟨_, rfl⟩
  have HN := Lib.hid en
  rw [← en] at hln ⊢
  clear hz1 hmm1 hcl1 hbl1 en
  have K5 := Lib.hid ((Kp.two hb5 (Kp.two hb5 (Kp.two hb5 (Kp.ends hb5)))) K4.out)
  clear hb5 z4 K4
  have z5 := K5.out
  go_wp2_with fail
  refine (C4.out _).mono ?_
  rintro e w6 hA6
  unfold RefAllE at hA6
  obtain ⟨u2, zs2, rfl, hz2, hmm2, hrow, hb6⟩ := hA6
  have hzz : zs2 = zs := rise_eq hz2 HZ1.out.1 (fun x => (hmm2 x).trans (HZ1.out.2 x).symm)
  subst hzz
  have h0 : 0 < zs2.length := by
    obtain ⟨l1, l2⟩ := HL.out
    exact List.length_pos_of_mem ((hmm2 _).2 ⟨r1', c1, Nat.le_refl _, l2, Nat.le_refl _, l1, rfl⟩)
  obtain ⟨g2, cap2, rfl, _, hgl, _, hHI⟩ := own_hi hrow h0
  have HHI := Lib.hid hHI
  have HGL := Lib.hid hgl
  have HCL2 : Hid (∀ t (h : t < zs2.length), w6.cell? ⟨b1, t, none⟩ = some (.int .i64 zs2[t])) := Lib.hid (fun t ht => cell_later hb6 (HCL.out t ht))
  rw [← HN.out] at h0 ⊢
  clear hz2 hmm2 hrow hHI hgl
  have K6 := Lib.hid ((Kp.two hb6 (Kp.two hb6 (Kp.two hb6 (Kp.ends hb6)))) K5.out)
  clear hb6 z5 K5
  have z6 := K6.out
  go_wp2_with fail
  go_loopw [18] (fun vi wr => LpR w6 n vi wr) (fun vi _ => n - (intOf vi).toNat)
  case atStart => exact ⟨0, 0, rfl, Nat.zero_le _, rfl⟩
  case round =>
    obtain ⟨j, q, rfl, hj, hwr⟩ := hrel
    have HW := Lib.hid hwr
    by_cases hlt : j < n
    · have hlz : (j : Int) < (n : Int) := by omega
      have hj0 : (0 : Int) ≤ (j : Int) := by omega
      have hjl : j < zs2.length := by rw [← HN.out]; exact hlt
      obtain ⟨X, hX⟩ : ∃ X, X = zs2[j] := ⟨_, rfl⟩
      have ca : wr.cell? ⟨b1, j, none⟩ = some (.int .i64 X) := by rw [hwr, hX]; exact HCL2.out j hjl
      have cb : wr.cell? ⟨g2, j, none⟩ = some (.int .i64 X) := by
        have := (HHI.out j (by simpa using hjl)).1
        rw [Nat.zero_add, getElem!_pos _ j (by simpa using hjl)] at this
        rw [hwr, hX]
        simpa using this
      clear hX hwr hjl
      go_wp2_with fail
      go_big_quiet (fail)
      go_wp2_with fail
      go_roundw
      case rel => first | exact ⟨j + 1, q + nq, by first | rfl | simp, by omega, by rw [HW.out, World.drewN_drewN]⟩ | ((repeat apply Exists.intro); exact ⟨⟨j + 1, q + nq, by first | rfl | simp, by omega, by rw [HW.out, World.drewN_drewN]⟩, rfl⟩)
      case measure => simp [intOf]; omega
    · have hlz : ¬ (j : Int) < (n : Int) := by omega
      have BF := Lib.hid (show Below w.heap.size w wr by rw [hwr]; exact bdrew (K6.out.2.2.2.2.2.2.2) q)
      clear hwr HW
      go_wp2_with fail
      go_ret
      exact ⟨by simp, BF.out⟩

set_option maxHeartbeats 4000000 in
set_option maxRecDepth 100000 in
theorem tells_10 (k b : Nat) (x y x1 y1 x2 y2 : Int) (w : World) (h1 : 24 ≤ k) (h2 : k ≤ 31) (h3 : 1 ≤ b) (h4 : b ≤ 64) (hm : mayB x y = true) (hr : rmayB x1 y1 x2 y2 = false) : Calls Try.prog 3 #[.int .i64 k, .int .i64 b, .agg #[.int .i64 x, .int .i64 y], .agg #[.int .i64 x1, .int .i64 y1, .int .i64 x2, .int .i64 y2]] w fun e w' => e = .returned (.bool true) ∧ Below w.heap.size w w' := by
  have CS := Lib.hid (fun W => refShift_any k W)
  rw [shB_of h1 h2] at CS
  have CM := Lib.hid (fun W => Pt.refMay_any x y W)
  have CR := Lib.hid (fun W => refRect_any x1 y1 x2 y2 W)
  rw [hm] at CM
  rw [hr] at CR
  have r1 := eql_arg
  have r2 := neq_rr
  have r3 := neq_nil_nil
  have hb1 : ¬ (b : Int) < 1 := by omega
  have hb2 : ¬ (b : Int) > 64 := by omega
  obtain ⟨c, ec, uc⟩ := col_lst h1 h2 (mayB_bd hm).1
  obtain ⟨r, er, ur⟩ := col_lst h1 h2 (mayB_bd hm).2
  have C1 := Lib.hid (fun W => of_yes k b x y c r W h1 h2 h3 h4 hm ec er uc ur)
  have C3 := Lib.hid (fun W => refOf_any k b x y c r W h1 h2 h4 hm ec er uc ur)
  obtain ⟨N, eN⟩ : ∃ N, N = owF (gF k) b (codeF 31 c r) := ⟨_, rfl⟩
  rw [← eN] at C1 C3
  clear eN uc ur ec er
  have C2 := Lib.hid (fun W => all_far k b x1 y1 x2 y2 W h1 h2 h3 h4 hr)
  clear hm hr h1 h2 h3 h4
  have L0 := (fun h => Kp.add0 h w.heap.size rfl (.int .i64 x) (.int .i64 y) 23) ⟨Nat.le_refl _, Below.refl w.heap.size w⟩
  have L1 := (Kp.two (Kp.behind _ (.cells #[.int .i64 x1, .int .i64 y1, .int .i64 x2, .int .i64 y2] 25)) (fun h => Kp.adq0 h (w.heap.size + 1) (by simp) (.int .i64 x1) (.int .i64 y1) (.int .i64 x2) (.int .i64 y2) 25)) L0
  have L := Lib.hid L1
  clear L0 L1
  have z := L.out
  go_enter Try.func3, Try.ntmps3
  go_wp2_with fail
  refine (up_any _).mono ?_
  rintro e w1 ⟨rfl, hb1⟩
  have K1 := Lib.hid ((Kp.two hb1 (Kp.two hb1 (Kp.two hb1 (Kp.ends hb1)))) L.out)
  clear hb1 z L
  have z1 := K1.out
  go_wp2_with fail
  refine (CS.out _).mono ?_
  rintro e w9 ⟨rfl, rfl⟩
  go_wp2_with fail
  refine (CM.out _).mono ?_
  rintro e w2 ⟨rfl, hb2⟩
  have K2 := Lib.hid ((Kp.two hb2 (Kp.two hb2 (Kp.two hb2 (Kp.ends hb2)))) K1.out)
  clear hb2 z1 K1
  have z2 := K2.out
  go_wp2_with fail
  refine (CR.out _).mono ?_
  rintro e w3 ⟨rfl, hb3⟩
  have K3 := Lib.hid ((Kp.two hb3 (Kp.two hb3 (Kp.two hb3 (Kp.ends hb3)))) K2.out)
  clear hb3 z2 K2
  have z3 := K3.out
  go_wp2_with fail
  refine (C1.out _).mono ?_
  rintro e w4 ⟨rfl, hb4⟩
  have K4 := Lib.hid ((Kp.two hb4 (Kp.two hb4 (Kp.two hb4 (Kp.ends hb4)))) K3.out)
  clear hb4 z3 K3
  have z4 := K4.out
  go_wp2_with fail
  refine (C2.out _).mono ?_
  rintro e w5 ⟨rfl, hb5⟩
  have K5 := Lib.hid ((Kp.two hb5 (Kp.two hb5 (Kp.two hb5 (Kp.ends hb5)))) K4.out)
  clear hb5 z4 K4
  have z5 := K5.out
  go_wp2_with fail
  refine (C3.out _).mono ?_
  rintro e w6 ⟨rfl, hb6⟩
  have K6 := Lib.hid ((Kp.two hb6 (Kp.two hb6 (Kp.two hb6 (Kp.ends hb6)))) K5.out)
  clear hb6 z5 K5
  have z6 := K6.out
  go_wp2_with fail
  go_ret
  exact ⟨by simp, K6.out.2.2.2.2.2.2.2⟩

set_option maxHeartbeats 4000000 in
set_option maxRecDepth 100000 in
theorem tells_11 (k b : Nat) (x y x1 y1 x2 y2 : Int) (w : World) (h1 : 24 ≤ k) (h2 : k ≤ 31) (h3 : 1 ≤ b) (h4 : b ≤ 64) (hm : mayB x y = true) (hr : rmayB x1 y1 x2 y2 = true) : Calls Try.prog 3 #[.int .i64 k, .int .i64 b, .agg #[.int .i64 x, .int .i64 y], .agg #[.int .i64 x1, .int .i64 y1, .int .i64 x2, .int .i64 y2]] w fun e w' => e = .returned (.bool true) ∧ Below w.heap.size w w' := by
  have CS := Lib.hid (fun W => refShift_any k W)
  rw [shB_of h1 h2] at CS
  have CM := Lib.hid (fun W => Pt.refMay_any x y W)
  have CR := Lib.hid (fun W => refRect_any x1 y1 x2 y2 W)
  rw [hm] at CM
  rw [hr] at CR
  have r1 := eql_arg
  have r2 := neq_rr
  have r3 := neq_nil_nil
  have hb1 : ¬ (b : Int) < 1 := by omega
  have hb2 : ¬ (b : Int) > 64 := by omega
  obtain ⟨c, ec, uc⟩ := col_lst h1 h2 (mayB_bd hm).1
  obtain ⟨r, er, ur⟩ := col_lst h1 h2 (mayB_bd hm).2
  have C1 := Lib.hid (fun W => of_yes k b x y c r W h1 h2 h3 h4 hm ec er uc ur)
  have C3 := Lib.hid (fun W => refOf_any k b x y c r W h1 h2 h4 hm ec er uc ur)
  obtain ⟨N, eN⟩ : ∃ N, N = owF (gF k) b (codeF 31 c r) := ⟨_, rfl⟩
  rw [← eN] at C1 C3
  clear eN uc ur ec er
  obtain ⟨c1, r1', c2, r2', e1, e2, e3, e4, l1, l2, l3, l4⟩ := rect_lst h1 h2 hr
  have C2 := Lib.hid (fun W => all_yes k b x1 y1 x2 y2 c1 r1' c2 r2' W h1 h2 h3 h4 hr e1 e2 e3 e4 l1 l2 l3 l4)
  have C4 := Lib.hid (fun W => refAll_any k b x1 y1 x2 y2 c1 r1' c2 r2' W h1 h2 h3 h4 hr e1 e2 e3 e4 l1 l2 l3 l4)
  have HL := Lib.hid (And.intro l1 l2)
  obtain ⟨g, eg⟩ : ∃ g, g = gF k := ⟨_, rfl⟩
  rw [← eg] at C2 C4
  clear e1 e2 e3 e4 l1 l2 l3 l4 eg
  clear hm hr h1 h2 h3 h4
  have L0 := (fun h => Kp.add0 h w.heap.size rfl (.int .i64 x) (.int .i64 y) 23) ⟨Nat.le_refl _, Below.refl w.heap.size w⟩
  have L1 := (Kp.two (Kp.behind _ (.cells #[.int .i64 x1, .int .i64 y1, .int .i64 x2, .int .i64 y2] 25)) (fun h => Kp.adq0 h (w.heap.size + 1) (by simp) (.int .i64 x1) (.int .i64 y1) (.int .i64 x2) (.int .i64 y2) 25)) L0
  have L := Lib.hid L1
  clear L0 L1
  have z := L.out
  go_enter Try.func3, Try.ntmps3
  go_wp2_with fail
  refine (up_any _).mono ?_
  rintro e w1 ⟨rfl, hb1⟩
  have K1 := Lib.hid ((Kp.two hb1 (Kp.two hb1 (Kp.two hb1 (Kp.ends hb1)))) L.out)
  clear hb1 z L
  have z1 := K1.out
  go_wp2_with fail
  refine (CS.out _).mono ?_
  rintro e w9 ⟨rfl, rfl⟩
  go_wp2_with fail
  refine (CM.out _).mono ?_
  rintro e w2 ⟨rfl, hb2⟩
  have K2 := Lib.hid ((Kp.two hb2 (Kp.two hb2 (Kp.two hb2 (Kp.ends hb2)))) K1.out)
  clear hb2 z1 K1
  have z2 := K2.out
  go_wp2_with fail
  refine (CR.out _).mono ?_
  rintro e w3 ⟨rfl, hb3⟩
  have K3 := Lib.hid ((Kp.two hb3 (Kp.two hb3 (Kp.two hb3 (Kp.ends hb3)))) K2.out)
  clear hb3 z2 K2
  have z3 := K3.out
  go_wp2_with fail
  refine (C1.out _).mono ?_
  rintro e w4 ⟨rfl, hb4⟩
  have K4 := Lib.hid ((Kp.two hb4 (Kp.two hb4 (Kp.two hb4 (Kp.ends hb4)))) K3.out)
  clear hb4 z3 K3
  have z4 := K4.out
  go_wp2_with fail
  refine (C2.out _).mono ?_
  rintro e w5 hA5
  unfold AllE at hA5
  obtain ⟨u1, zs, rfl, hz1, hmm1, hln, hrd, hb5⟩ := hA5
  obtain ⟨b1, cap1, rfl, hbl1, hcl1⟩ := hrd
  have HCL := Lib.hid hcl1
  have HZ1 := Lib.hid (And.intro hz1 hmm1)
  have HBL := Lib.hid hbl1
  obtain ⟨n, en⟩ : ∃ n, n = zs.length := ⟨_, rfl⟩
  have HN := Lib.hid en
  rw [← en] at hln ⊢
  clear hz1 hmm1 hcl1 hbl1 en
  have K5 := Lib.hid ((Kp.two hb5 (Kp.two hb5 (Kp.two hb5 (Kp.ends hb5)))) K4.out)
  clear hb5 z4 K4
  have z5 := K5.out
  go_wp2_with fail
  refine (C3.out _).mono ?_
  rintro e w6 ⟨rfl, hb6⟩
  have HCLb := Lib.hid (fun t (h : t < zs.length) => cell_later hb6 (HCL.out t h))
  have K6 := Lib.hid ((Kp.two hb6 (Kp.two hb6 (Kp.two hb6 (Kp.ends hb6)))) K5.out)
  clear hb6 z5 K5
  have z6 := K6.out
  go_wp2_with fail
  refine (C4.out _).mono ?_
  rintro e w7 hA7
  unfold RefAllE at hA7
  obtain ⟨u2, zs2, rfl, hz2, hmm2, hrow, hb7⟩ := hA7
  have hzz : zs2 = zs := rise_eq hz2 HZ1.out.1 (fun x => (hmm2 x).trans (HZ1.out.2 x).symm)
  subst hzz
  have h0 : 0 < zs2.length := by
    obtain ⟨l1, l2⟩ := HL.out
    exact List.length_pos_of_mem ((hmm2 _).2 ⟨r1', c1, Nat.le_refl _, l2, Nat.le_refl _, l1, rfl⟩)
  obtain ⟨g2, cap2, rfl, _, hgl, _, hHI⟩ := own_hi hrow h0
  have HHI := Lib.hid hHI
  have HGL := Lib.hid hgl
  have HCL2 : Hid (∀ t (h : t < zs2.length), w7.cell? ⟨b1, t, none⟩ = some (.int .i64 zs2[t])) := Lib.hid (fun t ht => cell_later hb7 (HCLb.out t ht))
  rw [← HN.out] at h0 ⊢
  clear hz2 hmm2 hrow hHI hgl
  have K7 := Lib.hid ((Kp.two hb7 (Kp.two hb7 (Kp.two hb7 (Kp.ends hb7)))) K6.out)
  clear hb7 z6 K6
  have z7 := K7.out
  go_wp2_with fail
  go_loopw [18] (fun vi wr => LpR w7 n vi wr) (fun vi _ => n - (intOf vi).toNat)
  case atStart => exact ⟨0, 0, rfl, Nat.zero_le _, rfl⟩
  case round =>
    obtain ⟨j, q, rfl, hj, hwr⟩ := hrel
    have HW := Lib.hid hwr
    by_cases hlt : j < n
    · have hlz : (j : Int) < (n : Int) := by omega
      have hj0 : (0 : Int) ≤ (j : Int) := by omega
      have hjl : j < zs2.length := by rw [← HN.out]; exact hlt
      obtain ⟨X, hX⟩ : ∃ X, X = zs2[j] := ⟨_, rfl⟩
      have ca : wr.cell? ⟨b1, j, none⟩ = some (.int .i64 X) := by rw [hwr, hX]; exact HCL2.out j hjl
      have cb : wr.cell? ⟨g2, j, none⟩ = some (.int .i64 X) := by
        have := (HHI.out j (by simpa using hjl)).1
        rw [Nat.zero_add, getElem!_pos _ j (by simpa using hjl)] at this
        rw [hwr, hX]
        simpa using this
      clear hX hwr hjl
      go_wp2_with fail
      go_big_quiet (fail)
      go_wp2_with fail
      go_roundw
      case rel => first | exact ⟨j + 1, q + nq, by first | rfl | simp, by omega, by rw [HW.out, World.drewN_drewN]⟩ | ((repeat apply Exists.intro); exact ⟨⟨j + 1, q + nq, by first | rfl | simp, by omega, by rw [HW.out, World.drewN_drewN]⟩, rfl⟩)
      case measure => simp [intOf]; omega
    · have hlz : ¬ (j : Int) < (n : Int) := by omega
      have BF := Lib.hid (show Below w.heap.size w wr by rw [hwr]; exact bdrew (K7.out.2.2.2.2.2.2.2) q)
      clear hwr HW
      go_wp2_with fail
      go_ret
      exact ⟨by simp, BF.out⟩

theorem tells_all (s b x y x1 y1 x2 y2 : Int) (w : World) : Calls Try.prog 3 #[.int .i64 s, .int .i64 b, .agg #[.int .i64 x, .int .i64 y], .agg #[.int .i64 x1, .int .i64 y1, .int .i64 x2, .int .i64 y2]] w fun e w' => e = .returned (.bool true) ∧ Below w.heap.size w w' := by
  cases h : shB s && brB b
  · exact tells_arg s b x y x1 y1 x2 y2 w h
  · obtain ⟨hs, hb⟩ := Bool.and_eq_true_iff.1 h
    obtain ⟨k, rfl, h1, h2⟩ := shB_nat hs
    obtain ⟨b', rfl, h3, h4⟩ := brB_nat hb
    cases hm : mayB x y <;> cases hr : rmayB x1 y1 x2 y2
    · exact tells_00 k b' x y x1 y1 x2 y2 w h1 h2 h3 h4 hm hr
    · exact tells_01 k b' x y x1 y1 x2 y2 w h1 h2 h3 h4 hm hr
    · exact tells_10 k b' x y x1 y1 x2 y2 w h1 h2 h3 h4 hm hr
    · exact tells_11 k b' x y x1 y1 x2 y2 w h1 h2 h3 h4 hm hr
end Go.Proofs.Ytkkolodolmppnaa.Ow
