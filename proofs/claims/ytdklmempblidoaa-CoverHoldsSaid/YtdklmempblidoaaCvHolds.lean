/-
  The walk of CoverHolds: it returns true. Memory that was there is left as it was.
-/
import Derived.Test.YtdklmempblidoaaCvTells
namespace Go.Proofs.Ytdklmempblidoaa.Cv
open Go.RowKit Go.Proofs.Ytdklmempblidoaa.Pt Go.Proofs.Ytdklmempblidoaa.Rc Go.Proofs.Ytdklmempblidoaa.So Go.Proofs.Ytdklmempblidoaa.Mo
set_option linter.unusedVariables false

theorem neq_range_nil (w : World) : (binOp .neq 29 (.iface 34 (.int .i64 11)) .nilIface).run Try.prog w = .ok (.bool true) w := by kernel_rfl
theorem rise_lt {ys : List Int} (h : Up ys) (hn : ys.Nodup) : ∀ i j (hij : i < j) (hj : j < ys.length), ys[i] < ys[j] := fun i j hij hj => by
  have h1 := (List.pairwise_iff_getElem.1 h) i j (by omega) hj hij
  have h2 := (List.pairwise_iff_getElem.1 hn) i j (by omega) hj hij
  omega
/-- Is N among the first j? -/
def metTo (N : Int) (ys : List Int) (j : Nat) : Bool := (ys.take j).any fun x => x == N
theorem metTo_next {N : Int} {ys : List Int} {j : Nat} (h : j < ys.length) : metTo N ys (j + 1) = (metTo N ys j || ys[j] == N) := by
  unfold metTo
  rw [List.take_succ_eq_append_getElem h, List.any_append]
  simp
theorem metTo_all {N : Int} {ys : List Int} : metTo N ys ys.length = decide (N ∈ ys) := by
  unfold metTo
  rw [List.take_length, Bool.eq_iff_iff, List.any_eq_true, decide_eq_true_eq]
  constructor
  · rintro ⟨x, hx, e⟩; rw [beq_iff_eq] at e; rw [← e]; exact hx
  · intro h; exact ⟨N, h, by simp⟩
def HoR (W : World) (n : Nat) (N : Int) (ys : List Int) (vm vi : Value) (wr : World) : Prop := ∃ j q : Nat, vm = .bool (metTo N ys j) ∧ vi = .int .i64 j ∧ j ≤ n ∧ wr = W.drewN q

set_option maxHeartbeats 4000000 in
theorem holds_no (s ax1 ay1 ax2 ay2 px py : Int) (w : World) (hno : (shB s && rmayB ax1 ay1 ax2 ay2) = false) : Calls Try.prog 4 #[.int .i64 s, .agg #[.int .i64 ax1, .int .i64 ay1, .int .i64 ax2, .int .i64 ay2], .agg #[.int .i64 px, .int .i64 py]] w fun e w' => e = .returned (.bool true) ∧ Below w.heap.size w w' := by
  have q1 := neq_arg_nil
  have K0 := Lib.hid (Kp.add4 (Kp.adq0 ⟨Nat.le_refl _, Below.refl w.heap.size w⟩ w.heap.size rfl (.int .i64 ax1) (.int .i64 ay1) (.int .i64 ax2) (.int .i64 ay2) 23) (w.heap.size + 1) (by simp) (.int .i64 px) (.int .i64 py) 40)
  go_enter Try.func4, Try.ntmps4
  go_wp2_with fail
  refine (up_any _).mono ?_
  rintro e w1 ⟨rfl, hb1⟩
  have K1 := Kp.keep6 hb1 K0.out
  clear K0 hb1
  go_wp2_with fail
  refine (cbox_no s ax1 ay1 ax2 ay2 _ hno).mono ?_
  rintro e w2 ⟨rfl, hb2⟩
  have L2 := Kp.keep6 hb2 K1
  have K2 := Kp.adq6 L2 w2.heap.size rfl (.int .i64 0) (.int .i64 0) (.int .i64 0) (.int .i64 0) 23
  clear K1 hb2
  go_wp2_with fail
  refine (cells_no s ax1 ay1 ax2 ay2 _ hno).mono ?_
  rintro e w3 ⟨rfl, hb3⟩
  have K3 := Lib.hid (Kp.keep10 hb3 K2)
  clear K2 L2 hb3
  go_wp2_with fail
  go_ret
  exact ⟨by simp, Kp.end10 K3.out⟩

set_option maxHeartbeats 8000000 in
set_option maxRecDepth 100000 in
theorem holds_yes (k : Nat) (ax1 ay1 ax2 ay2 px py : Int) (w : World) (h1 : 24 ≤ k) (h2 : k ≤ 31) (ha : rmayB ax1 ay1 ax2 ay2 = true) : Calls Try.prog 4 #[.int .i64 k, .agg #[.int .i64 ax1, .int .i64 ay1, .int .i64 ax2, .int .i64 ay2], .agg #[.int .i64 px, .int .i64 py]] w fun e w' => e = .returned (.bool true) ∧ Below w.heap.size w w' := by
  have q1 := neq_nil_nil
  have q2 := neq_range_nil
  have hs := shB_of h1 h2
  obtain ⟨m1, m2⟩ := rmay_two ha
  obtain ⟨ba, bb, bc, bd, be, bf⟩ := rmayB_bd ha
  obtain ⟨c1, e1, u1⟩ := col_nat h1 h2 (mayB_bd m1).1
  obtain ⟨r1, e2, u2⟩ := col_nat h1 h2 (mayB_bd m1).2
  obtain ⟨c2, e3, u3⟩ := col_nat h1 h2 (mayB_bd m2).1
  obtain ⟨r2, e4, u4⟩ := col_nat h1 h2 (mayB_bd m2).2
  have hcc : c1 ≤ c2 := by have := col_mono (k := k) bb; omega
  have hrr : r1 ≤ r2 := by have := col_mono (k := k) be; omega
  have C1 := Lib.hid (fun W => cbox_yes k ax1 ay1 ax2 ay2 W h1 h2 ha)
  have C2 := Lib.hid (fun W => cells_yes k ax1 ay1 ax2 ay2 c1 r1 c2 r2 W h1 h2 ha e1 e2 e3 e4 hcc hrr u3 u4)
  have C3 := Lib.hid (fun W => refHolds_any (firI k (colI k ax1)) (firI k (colI k ay1)) (lasI k (colI k ax2)) (lasI k (colI k ay2)) ax1 ay1 ax2 ay2 W)
  rw [box_holds ha] at C3
  have C4 := Lib.hid (fun W => same_yes k ax1 ay1 ax2 ay2 (firI k (colI k ax1)) (firI k (colI k ay1)) (lasI k (colI k ax2)) (lasI k (colI k ay2)) W h1 h2 ha (box_may ha))
  rw [show eqB (colI k ax1) (colI k ay1) (colI k ax2) (colI k ay2) (colI k (firI k (colI k ax1))) (colI k (firI k (colI k ay1))) (colI k (lasI k (colI k ax2))) (colI k (lasI k (colI k ay2))) = true by
    rw [eqB_iff, col_fir, col_fir, col_las bc, col_las bf]; exact ⟨rfl, rfl, rfl, rfl⟩] at C4
  have C5 := Lib.hid (fun W => refIn_any ax1 ay1 ax2 ay2 px py W)
  have C6 := Lib.hid (fun W => refIn_any (firI k (colI k ax1)) (firI k (colI k ay1)) (lasI k (colI k ax2)) (lasI k (colI k ay2)) px py W)
  have HB := Lib.hid (fun (hi : inB ax1 ay1 ax2 ay2 px py = true) => in_both (k := k) ha hi)
  have HX := Lib.hid (fun (hp : mayB px py = true) => in_boxB (k := k) (x1 := ax1) (y1 := ay1) (x2 := ax2) (y2 := ay2) hp)
  rw [e1, e2, e3, e4] at HX
  obtain ⟨f1, g1⟩ : ∃ c, c = firI k (colI k ax1) := ⟨_, rfl⟩
  obtain ⟨f2, g2⟩ : ∃ c, c = firI k (colI k ay1) := ⟨_, rfl⟩
  obtain ⟨l3, g3⟩ : ∃ c, c = lasI k (colI k ax2) := ⟨_, rfl⟩
  obtain ⟨l4, g4⟩ : ∃ c, c = lasI k (colI k ay2) := ⟨_, rfl⟩
  rw [e1] at g1; rw [e2] at g2; rw [e3] at g3; rw [e4] at g4
  rw [e1, e2, e3, e4, ← g1, ← g2, ← g3, ← g4] at C1 C3 C4 C6 HB
  rw [← g1, ← g2, ← g3, ← g4] at HX
  obtain ⟨I0, hI0⟩ : ∃ b, b = inB ax1 ay1 ax2 ay2 px py := ⟨_, rfl⟩
  obtain ⟨Q0, hQ0⟩ : ∃ b, b = inB f1 f2 l3 l4 px py := ⟨_, rfl⟩
  rw [← hI0] at C5 HB
  rw [← hQ0] at C6 HB HX
  clear m1 m2 ba bb bc bd be bf u1 u2 hcc hrr e1 e2 e3 e4 g1 g2 g3 g4 hI0 hQ0
  cases hm : mayB px py
  · have hI : I0 = false := by
      cases hi : I0
      · rfl
      · have := (HB.out hi).1; rw [hm] at this; cases this
    subst hI
    clear HX HB
    have K0 := Lib.hid (Kp.add4 (Kp.adq0 ⟨Nat.le_refl _, Below.refl w.heap.size w⟩ w.heap.size rfl (.int .i64 ax1) (.int .i64 ay1) (.int .i64 ax2) (.int .i64 ay2) 23) (w.heap.size + 1) (by simp) (.int .i64 px) (.int .i64 py) 40)
    go_enter Try.func4, Try.ntmps4
    go_wp2_with fail
    refine (up_any _).mono ?_
    rintro e w1 ⟨rfl, hb1⟩
    have K1 := Kp.keep6 hb1 K0.out
    clear K0 hb1
    go_wp2_with fail
    refine (C1.out _).mono ?_
    rintro e w2 ⟨rfl, hb2⟩
    have L2 := Kp.keep6 hb2 K1
    have K2 := Kp.adq6 L2 w2.heap.size rfl (.int .i64 f1) (.int .i64 f2) (.int .i64 l3) (.int .i64 l4) 23
    clear K1 hb2
    go_wp2_with fail
    refine (C2.out _).mono ?_
    rintro e w3 ⟨u, ps, ys, rfl, hps, hpp, hup, hrd, hb3⟩
    have K3 := Kp.keep10 hb3 K2
    have RD3 := Lib.hid hrd
    have hmx : ys.length ≤ 191 * 191 := by rw [hpp.length_eq, hps.2.2]; exact Nat.mul_le_mul (by omega) (by omega)
    have YM := Lib.hid (fun x => (hpp.mem_iff (a := x)).trans (hps.2.1 x))
    have YL := Lib.hid (rise_lt hup (hpp.nodup_iff.2 hps.1))
    clear K2 L2 hb3 hps hpp hup
    obtain ⟨b1, o1, cap1, rfl, _⟩ := hrd
    obtain ⟨n, hn⟩ : ∃ n, n = ys.length := ⟨_, rfl⟩
    have HN := Lib.hid hn
    rw [← hn] at hmx ⊢
    rw [← hn] at RD3
    clear hn
    go_wp2_with fail
    refine (C3.out _).mono ?_
    rintro e w4 ⟨rfl, hb4⟩
    have K4 := Kp.keep10 hb4 K3
    have RD4 := Lib.hid (RD3.out.fwd hb4)
    clear K3 hb4 RD3
    go_wp2_with fail
    refine (C4.out _).mono ?_
    rintro e w5 ⟨rfl, hb5⟩
    have K5 := Kp.keep10 hb5 K4
    have RD5 := Lib.hid (RD4.out.fwd hb5)
    clear K4 hb5 RD4
    go_wp2_with fail
    refine (cell_far k px py _ hs hm).mono ?_
    rintro e w6 ⟨rfl, hb6⟩
    have K6 := Kp.keep10 hb6 K5
    have RD6 := Lib.hid (RD5.out.fwd hb6)
    clear K5 hb6 RD5
    go_wp2_with fail
    refine (code_yes 0 0 _ (by decide) (by decide)).mono ?_
    rintro e wz ⟨rfl, rfl⟩
    go_wp2_with fail
    refine (C5.out _).mono ?_
    rintro e w7 ⟨rfl, hb7⟩
    have K7 := Kp.keep10 hb7 K6
    have RD7 := Lib.hid (RD6.out.fwd hb7)
    clear K6 hb7 RD6
    go_wp2_with fail
    refine (C6.out _).mono ?_
    rintro e w8 ⟨rfl, hb8⟩
    have K8 := Kp.keep10 hb8 K7
    have RD8 := Lib.hid (RD7.out.fwd hb8)
    clear K7 hb8 RD7
    go_wp2_with fail
    go_ret
    exact ⟨by simp, Kp.end10 K8⟩
  · obtain ⟨x0, e5, u5⟩ := col_nat (n := px) h1 h2 (mayB_bd hm).1
    obtain ⟨y0, e6, u6⟩ := col_nat (n := py) h1 h2 (mayB_bd hm).2
    have C7 := Lib.hid (fun W => cell_yes k px py W h1 h2 hm)
    have C8 := Lib.hid (fun W => code_yes x0 y0 W (by omega) (by omega))
    have HI := Lib.hid (fun (h : I0 = true) => (HB.out h).2)
    have hX := HX.out hm
    rw [e5, e6] at C7 hX
    obtain ⟨N, hN⟩ : ∃ N : Int, N = (codeF 31 x0 y0 : Nat) := ⟨_, rfl⟩
    have HQ : Hid ((∃ i j, r1 ≤ i ∧ i ≤ r2 ∧ c1 ≤ j ∧ j ≤ c2 ∧ N = codeI j i) ↔ Q0 = true) := Lib.hid (by
      rw [hX]
      constructor
      · rintro ⟨i, j, t1, t2, t3, t4, t5⟩
        rw [hN] at t5
        obtain ⟨rfl, rfl⟩ := code_inj (by omega) (by omega) (by omega) (by omega) (show codeI x0 y0 = codeI j i from t5)
        omega
      · rintro ⟨t1, t2, t3, t4⟩
        exact ⟨y0, x0, by omega, by omega, by omega, by omega, hN⟩)
    rw [← hN] at C8
    clear HX HB hX hN e5 e6 u5 u6 hm
    have K0 := Lib.hid (Kp.add4 (Kp.adq0 ⟨Nat.le_refl _, Below.refl w.heap.size w⟩ w.heap.size rfl (.int .i64 ax1) (.int .i64 ay1) (.int .i64 ax2) (.int .i64 ay2) 23) (w.heap.size + 1) (by simp) (.int .i64 px) (.int .i64 py) 40)
    go_enter Try.func4, Try.ntmps4
    go_wp2_with fail
    refine (up_any _).mono ?_
    rintro e w1 ⟨rfl, hb1⟩
    have K1 := Kp.keep6 hb1 K0.out
    clear K0 hb1
    go_wp2_with fail
    refine (C1.out _).mono ?_
    rintro e w2 ⟨rfl, hb2⟩
    have L2 := Kp.keep6 hb2 K1
    have K2 := Kp.adq6 L2 w2.heap.size rfl (.int .i64 f1) (.int .i64 f2) (.int .i64 l3) (.int .i64 l4) 23
    clear K1 hb2
    go_wp2_with fail
    refine (C2.out _).mono ?_
    rintro e w3 ⟨u, ps, ys, rfl, hps, hpp, hup, hrd, hb3⟩
    have K3 := Kp.keep10 hb3 K2
    have RD3 := Lib.hid hrd
    have hmx : ys.length ≤ 191 * 191 := by rw [hpp.length_eq, hps.2.2]; exact Nat.mul_le_mul (by omega) (by omega)
    have YM := Lib.hid (fun x => (hpp.mem_iff (a := x)).trans (hps.2.1 x))
    have YL := Lib.hid (rise_lt hup (hpp.nodup_iff.2 hps.1))
    clear K2 L2 hb3 hps hpp hup
    obtain ⟨b1, o1, cap1, rfl, _⟩ := hrd
    obtain ⟨n, hn⟩ : ∃ n, n = ys.length := ⟨_, rfl⟩
    have HN := Lib.hid hn
    rw [← hn] at hmx ⊢
    rw [← hn] at RD3
    clear hn
    go_wp2_with fail
    refine (C3.out _).mono ?_
    rintro e w4 ⟨rfl, hb4⟩
    have K4 := Kp.keep10 hb4 K3
    have RD4 := Lib.hid (RD3.out.fwd hb4)
    clear K3 hb4 RD3
    go_wp2_with fail
    refine (C4.out _).mono ?_
    rintro e w5 ⟨rfl, hb5⟩
    have K5 := Kp.keep10 hb5 K4
    have RD5 := Lib.hid (RD4.out.fwd hb5)
    clear K4 hb5 RD4
    go_wp2_with fail
    refine (C7.out _).mono ?_
    rintro e w6 ⟨rfl, hb6⟩
    have K6 := Kp.keep10 hb6 K5
    have RD6 := Lib.hid (RD5.out.fwd hb6)
    clear K5 hb6 RD5
    go_wp2_with fail
    refine (C8.out _).mono ?_
    rintro e wz ⟨rfl, rfl⟩
    go_wp2_with fail
    refine (C5.out _).mono ?_
    rintro e w7 ⟨rfl, hb7⟩
    have K7 := Kp.keep10 hb7 K6
    have RD7 := Lib.hid (RD6.out.fwd hb7)
    clear K6 hb7 RD6
    go_wp2_with fail
    refine (C6.out _).mono ?_
    rintro e w8 ⟨rfl, hb8⟩
    have K8 := Kp.keep10 hb8 K7
    have RD8 := RD7.out.fwd hb8
    obtain ⟨b1', o1', cap1', ee, _, _, _, hc1⟩ := RD8
    simp at ee
    obtain ⟨⟨rfl, rfl⟩, _, rfl⟩ := ee
    have HC1 := Lib.hid hc1
    have KF := Lib.hid (Kp.end10 K8)
    clear hc1 K7 K8 RD7 hb8
    go_wp2_with fail
    go_loopw [20, 21] (fun vm vi wr => HoR w8 n N ys vm vi wr) (fun vm vi _ => n - nOf vi)
    case atStart => exact ⟨0, 0, rfl, rfl, Nat.zero_le _, rfl⟩
    case round =>
      obtain ⟨j, q, rfl, rfl, hj, hwr⟩ := hrel
      have HW := Lib.hid hwr
      by_cases hlt : j < n
      · have hlt2 : j < ys.length := by rw [← HN.out]; exact hlt
        obtain ⟨X, hX⟩ : ∃ X, X = ys[j] := ⟨_, rfl⟩
        obtain ⟨m, hm0⟩ : ∃ m, m = metTo N ys j := ⟨_, rfl⟩
        have HM := Lib.hid (metTo_next (N := N) hlt2)
        rw [← hm0, ← hX] at HM
        rw [← hm0]
        have ca : wr.cell? ⟨b1, o1 + j, none⟩ = some (.int .u64 X) := by rw [hwr, hX]; exact HC1.out j hlt2
        have hjz : (j : Int) < (n : Int) := by omega
        rcases Nat.eq_zero_or_pos j with hj0 | hj0
        · subst hj0
          have ca0 : wr.cell? ⟨b1, o1, none⟩ = some (.int .u64 X) := ca
          clear hX hwr hlt2 hm0
          cases m
          all_goals
            go_wp2_with fail
            go_big_quiet (fail)
            go_wp2_with fail
            go_roundw
            case rel => first | exact ⟨1, q + nq, by rw [HM.out]; simp, by simp, by omega, by rw [HW.out, World.drewN_drewN]⟩ | ((repeat apply Exists.intro); exact ⟨⟨1, q + nq, by rw [HM.out]; simp, by first | rfl | simp, by omega, by rw [HW.out, World.drewN_drewN]⟩, rfl⟩)
            case measure => simp [nOf]; omega
        · have hl1 : j - 1 < ys.length := by omega
          obtain ⟨Y, hY⟩ : ∃ Y, Y = ys[j - 1] := ⟨_, rfl⟩
          have cb : wr.cell? ⟨b1, o1 + (j - 1), none⟩ = some (.int .u64 Y) := by rw [hwr, hY]; exact HC1.out (j - 1) hl1
          have hYX : ¬ X ≤ Y := by rw [hX, hY]; have := YL.out (j - 1) j (by omega) hlt2; omega
          have hj0z : (j : Int) > 0 := by omega
          clear hX hwr hlt2 hm0 hY hl1
          cases m
          all_goals
            go_wp2_with fail
            go_big_quiet (fail)
            go_wp2_with fail
            go_roundw
            case rel => first | exact ⟨j + 1, q + nq, by rw [HM.out]; simp, by simp, by omega, by rw [HW.out, World.drewN_drewN]⟩ | ((repeat apply Exists.intro); exact ⟨⟨j + 1, q + nq, by rw [HM.out]; simp, by first | rfl | simp, by omega, by rw [HW.out, World.drewN_drewN]⟩, rfl⟩)
            case measure => simp [nOf]; omega
      · have hjz : ¬ (j : Int) < (n : Int) := by omega
        obtain rfl : j = n := by omega
        have hme : metTo N ys j = Q0 := by rw [HN.out, metTo_all, Bool.eq_iff_iff, decide_eq_true_eq, YM.out, HQ.out]
        rw [hme]
        have BF := Lib.hid (show Below w.heap.size w wr by rw [hwr]; exact bdrew KF.out q)
        clear hwr hme HW
        cases Q0
        · cases I0
          · go_wp2_with fail
            go_ret
            exact ⟨by simp, BF.out⟩
          · exact absurd (HI.out rfl) (by simp)
        · cases I0
          all_goals
            go_wp2_with fail
            go_ret
            exact ⟨by simp, BF.out⟩

theorem holds_law (s ax1 ay1 ax2 ay2 px py : Int) (w : World) : Calls Try.prog 4 #[.int .i64 s, .agg #[.int .i64 ax1, .int .i64 ay1, .int .i64 ax2, .int .i64 ay2], .agg #[.int .i64 px, .int .i64 py]] w fun e w' => e = .returned (.bool true) ∧ Below w.heap.size w w' := by
  cases h : (shB s && rmayB ax1 ay1 ax2 ay2)
  · exact holds_no s ax1 ay1 ax2 ay2 px py w h
  · rw [Bool.and_eq_true] at h
    obtain ⟨k, rfl, h1, h2⟩ := shB_nat h.1
    exact holds_yes k ax1 ay1 ax2 ay2 px py w h1 h2 h.2
end Go.Proofs.Ytdklmempblidoaa.Cv
