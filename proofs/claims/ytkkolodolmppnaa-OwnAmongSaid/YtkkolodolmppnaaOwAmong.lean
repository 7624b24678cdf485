/-
  The walk of the statement OwnAmong: whatever shift, brokers, point and rectangle it is given, it returns true, and memory that was there is left as it was.
-/
import Derived.Test.YtkkolodolmppnaaOwUp
import Derived.Test.YtkkolodolmppnaaRcSubA
namespace Go.Proofs.Ytkkolodolmppnaa.Ow
open Go.RowKit Go.Proofs.Ytkkolodolmppnaa.Pt Go.Proofs.Ytkkolodolmppnaa.Rc Go.Proofs.Ytkkolodolmppnaa.Mo Go.Proofs.Ytkkolodolmppnaa.Cv
set_option linter.unusedVariables false
set_option linter.unusedSimpArgs false

/-- Is N among the first j? -/
def metO (N : Int) (ys : List Int) (j : Nat) : Bool := (ys.take j).any fun x => x == N
theorem metO_next {N : Int} {ys : List Int} {j : Nat} (h : j < ys.length) : metO N ys (j + 1) = (metO N ys j || ys[j] == N) := by
  unfold metO
  rw [List.take_succ_eq_append_getElem h, List.any_append]
  simp
theorem metO_all {N : Int} {ys : List Int} : metO N ys ys.length = decide (N ∈ ys) := by
  unfold metO
  rw [List.take_length, Bool.eq_iff_iff, List.any_eq_true, decide_eq_true_eq]
  constructor
  · rintro ⟨x, hx, e⟩; rw [beq_iff_eq] at e; rw [← e]; exact hx
  · intro h; exact ⟨N, h, by simp⟩
def HoO (W : World) (n : Nat) (N : Int) (ys : List Int) (vm vi : Value) (wr : World) : Prop := ∃ j q : Nat, vm = .bool (metO N ys j) ∧ vi = .int .i64 j ∧ j ≤ n ∧ wr = W.drewN q

set_option maxHeartbeats 4000000 in
set_option maxRecDepth 100000 in
theorem among_arg (s b x y x1 y1 x2 y2 : Int) (w : World) (h : (shB s && brB b) = false) : Calls Try.prog 4 #[.int .i64 s, .int .i64 b, .agg #[.int .i64 x, .int .i64 y], .agg #[.int .i64 x1, .int .i64 y1, .int .i64 x2, .int .i64 y2]] w fun e w' => e = .returned (.bool true) ∧ Below w.heap.size w w' := by
  have C1 := Lib.hid (fun W => of_arg s b x y W h)
  have C2 := Lib.hid (fun W => all_arg s b x1 y1 x2 y2 W h)
  have r1 := neq_arg_nil
  clear h
  have L0 := (fun h => Kp.add0 h w.heap.size rfl (.int .i64 x) (.int .i64 y) 23) ⟨Nat.le_refl _, Below.refl w.heap.size w⟩
  have L1 := (Kp.two (Kp.behind _ (.cells #[.int .i64 x1, .int .i64 y1, .int .i64 x2, .int .i64 y2] 25)) (fun h => Kp.adq0 h (w.heap.size + 1) (by simp) (.int .i64 x1) (.int .i64 y1) (.int .i64 x2) (.int .i64 y2) 25)) L0
  have L := Lib.hid L1
  clear L0 L1
  have z := L.out
  go_enter Try.func4, Try.ntmps4
  go_wp2_with fail
  refine (up_any _).mono ?_
  rintro e w1 ⟨rfl, hb1⟩
  have K1 := Lib.hid ((Kp.two hb1 (Kp.two hb1 (Kp.two hb1 (Kp.ends hb1)))) L.out)
  clear hb1 z L
  have z1 := K1.out
  go_wp2_with fail
  refine (C1.out _).mono ?_
  rintro e w2 ⟨rfl, hb2⟩
  have K2 := Lib.hid ((Kp.two hb2 (Kp.two hb2 (Kp.two hb2 (Kp.ends hb2)))) K1.out)
  clear hb2 z1 K1
  have z2 := K2.out
  go_wp2_with fail
  refine (C2.out _).mono ?_
  rintro e w3 ⟨rfl, hb3⟩
  have K3 := Lib.hid ((Kp.two hb3 (Kp.two hb3 (Kp.two hb3 (Kp.ends hb3)))) K2.out)
  clear hb3 z2 K2
  have z3 := K3.out
  go_wp2_with fail
  go_ret
  exact ⟨by simp, K3.out.2.2.2.2.2.2.2⟩

set_option maxHeartbeats 4000000 in
set_option maxRecDepth 100000 in
theorem among_00 (k b : Nat) (x y x1 y1 x2 y2 : Int) (w : World) (h1 : 24 ≤ k) (h2 : k ≤ 31) (h3 : 1 ≤ b) (h4 : b ≤ 64) (hm : mayB x y = false) (hr : rmayB x1 y1 x2 y2 = false) : Calls Try.prog 4 #[.int .i64 k, .int .i64 b, .agg #[.int .i64 x, .int .i64 y], .agg #[.int .i64 x1, .int .i64 y1, .int .i64 x2, .int .i64 y2]] w fun e w' => e = .returned (.bool true) ∧ Below w.heap.size w w' := by
  have r1 := neq_arg_nil
  have r2 := neq_range_nil
  have r3 := neq_nil_nil
  have C1 := Lib.hid (fun W => of_far k b x y W h1 h2 h3 h4 hm)
  have C2 := Lib.hid (fun W => all_far k b x1 y1 x2 y2 W h1 h2 h3 h4 hr)
  clear hm hr h1 h2 h3 h4
  have L0 := (fun h => Kp.add0 h w.heap.size rfl (.int .i64 x) (.int .i64 y) 23) ⟨Nat.le_refl _, Below.refl w.heap.size w⟩
  have L1 := (Kp.two (Kp.behind _ (.cells #[.int .i64 x1, .int .i64 y1, .int .i64 x2, .int .i64 y2] 25)) (fun h => Kp.adq0 h (w.heap.size + 1) (by simp) (.int .i64 x1) (.int .i64 y1) (.int .i64 x2) (.int .i64 y2) 25)) L0
  have L := Lib.hid L1
  clear L0 L1
  have z := L.out
  go_enter Try.func4, Try.ntmps4
  go_wp2_with fail
  refine (up_any _).mono ?_
  rintro e w1 ⟨rfl, hb1⟩
  have K1 := Lib.hid ((Kp.two hb1 (Kp.two hb1 (Kp.two hb1 (Kp.ends hb1)))) L.out)
  clear hb1 z L
  have z1 := K1.out
  go_wp2_with fail
  refine (C1.out _).mono ?_
  rintro e w2 ⟨rfl, hb2⟩
  have K2 := Lib.hid ((Kp.two hb2 (Kp.two hb2 (Kp.two hb2 (Kp.ends hb2)))) K1.out)
  clear hb2 z1 K1
  have z2 := K2.out
  go_wp2_with fail
  refine (C2.out _).mono ?_
  rintro e w3 ⟨rfl, hb3⟩
  have K3 := Lib.hid ((Kp.two hb3 (Kp.two hb3 (Kp.two hb3 (Kp.ends hb3)))) K2.out)
  clear hb3 z2 K2
  have z3 := K3.out
  go_wp2_with fail
  go_ret
  exact ⟨by simp, K3.out.2.2.2.2.2.2.2⟩

set_option maxHeartbeats 4000000 in
set_option maxRecDepth 100000 in
theorem among_01 (k b : Nat) (x y x1 y1 x2 y2 : Int) (w : World) (h1 : 24 ≤ k) (h2 : k ≤ 31) (h3 : 1 ≤ b) (h4 : b ≤ 64) (hm : mayB x y = false) (hr : rmayB x1 y1 x2 y2 = true) : Calls Try.prog 4 #[.int .i64 k, .int .i64 b, .agg #[.int .i64 x, .int .i64 y], .agg #[.int .i64 x1, .int .i64 y1, .int .i64 x2, .int .i64 y2]] w fun e w' => e = .returned (.bool true) ∧ Below w.heap.size w w' := by
  have r1 := neq_arg_nil
  have r2 := neq_range_nil
  have r3 := neq_nil_nil
  have C1 := Lib.hid (fun W => of_far k b x y W h1 h2 h3 h4 hm)
  obtain ⟨c1, r1', c2, r2', e1, e2, e3, e4, l1, l2, l3, l4⟩ := rect_lst h1 h2 hr
  have C2 := Lib.hid (fun W => all_yes k b x1 y1 x2 y2 c1 r1' c2 r2' W h1 h2 h3 h4 hr e1 e2 e3 e4 l1 l2 l3 l4)
  obtain ⟨g, eg⟩ : ∃ g, g = gF k := ⟨_, rfl⟩
  rw [← eg] at C2
  clear e1 e2 e3 e4 l1 l2 l3 l4 eg
  clear hm hr h1 h2 h3 h4
  have L0 := (fun h => Kp.add0 h w.heap.size rfl (.int .i64 x) (.int .i64 y) 23) ⟨Nat.le_refl _, Below.refl w.heap.size w⟩
  have L1 := (Kp.two (Kp.behind _ (.cells #[.int .i64 x1, .int .i64 y1, .int .i64 x2, .int .i64 y2] 25)) (fun h => Kp.adq0 h (w.heap.size + 1) (by simp) (.int .i64 x1) (.int .i64 y1) (.int .i64 x2) (.int .i64 y2) 25)) L0
  have L := Lib.hid L1
  clear L0 L1
  have z := L.out
  go_enter Try.func4, Try.ntmps4
  go_wp2_with fail
  refine (up_any _).mono ?_
  rintro e w1 ⟨rfl, hb1⟩
  have K1 := Lib.hid ((Kp.two hb1 (Kp.two hb1 (Kp.two hb1 (Kp.ends hb1)))) L.out)
  clear hb1 z L
  have z1 := K1.out
  go_wp2_with fail
  refine (C1.out _).mono ?_
  rintro e w2 ⟨rfl, hb2⟩
  have K2 := Lib.hid ((Kp.two hb2 (Kp.two hb2 (Kp.two hb2 (Kp.ends hb2)))) K1.out)
  clear hb2 z1 K1
  have z2 := K2.out
  go_wp2_with fail
  refine (C2.out _).mono ?_
  rintro e w3 hA3
  unfold AllE at hA3
  obtain ⟨u1, zs, rfl, hz1, hmm1, hln, hrd, hb3⟩ := hA3
  obtain ⟨b1, cap1, rfl, hbl1, hcl1⟩ := hrd
  have HCL := Lib.hid hcl1
  have HZ1 := Lib.hid (And.intro hz1 hmm1)
  have HBL := Lib.hid hbl1
  obtain ⟨n, en⟩ : ∃ n, n = zs.length := ⟨_, rfl⟩
  have HN := Lib.hid en
  rw [← en] at hln ⊢
  clear hz1 hmm1 hcl1 hbl1 en
  have K3 := Lib.hid ((Kp.two hb3 (Kp.two hb3 (Kp.two hb3 (Kp.ends hb3)))) K2.out)
  clear hb3 z2 K2
  have z3 := K3.out
  go_wp2_with fail
  go_ret
  exact ⟨by simp, K3.out.2.2.2.2.2.2.2⟩

set_option maxHeartbeats 4000000 in
set_option maxRecDepth 100000 in
theorem among_10 (k b : Nat) (x y x1 y1 x2 y2 : Int) (w : World) (h1 : 24 ≤ k) (h2 : k ≤ 31) (h3 : 1 ≤ b) (h4 : b ≤ 64) (hm : mayB x y = true) (hr : rmayB x1 y1 x2 y2 = false) : Calls Try.prog 4 #[.int .i64 k, .int .i64 b, .agg #[.int .i64 x, .int .i64 y], .agg #[.int .i64 x1, .int .i64 y1, .int .i64 x2, .int .i64 y2]] w fun e w' => e = .returned (.bool true) ∧ Below w.heap.size w w' := by
  have r1 := neq_arg_nil
  have r2 := neq_range_nil
  have r3 := neq_nil_nil
  obtain ⟨c, ec, uc⟩ := col_lst h1 h2 (mayB_bd hm).1
  obtain ⟨r, er, ur⟩ := col_lst h1 h2 (mayB_bd hm).2
  have C1 := Lib.hid (fun W => of_yes k b x y c r W h1 h2 h3 h4 hm ec er uc ur)
  have C2 := Lib.hid (fun W => all_far k b x1 y1 x2 y2 W h1 h2 h3 h4 hr)
  obtain ⟨N, eN⟩ : ∃ N, N = owF (gF k) b (codeF 31 c r) := ⟨_, rfl⟩
  rw [← eN] at C1
  clear eN uc ur ec er
  clear hm hr h1 h2 h3 h4
  have L0 := (fun h => Kp.add0 h w.heap.size rfl (.int .i64 x) (.int .i64 y) 23) ⟨Nat.le_refl _, Below.refl w.heap.size w⟩
  have L1 := (Kp.two (Kp.behind _ (.cells #[.int .i64 x1, .int .i64 y1, .int .i64 x2, .int .i64 y2] 25)) (fun h => Kp.adq0 h (w.heap.size + 1) (by simp) (.int .i64 x1) (.int .i64 y1) (.int .i64 x2) (.int .i64 y2) 25)) L0
  have L := Lib.hid L1
  clear L0 L1
  have z := L.out
  go_enter Try.func4, Try.ntmps4
  go_wp2_with fail
  refine (up_any _).mono ?_
  rintro e w1 ⟨rfl, hb1⟩
  have K1 := Lib.hid ((Kp.two hb1 (Kp.two hb1 (Kp.two hb1 (Kp.ends hb1)))) L.out)
  clear hb1 z L
  have z1 := K1.out
  go_wp2_with fail
  refine (C1.out _).mono ?_
  rintro e w2 ⟨rfl, hb2⟩
  have K2 := Lib.hid ((Kp.two hb2 (Kp.two hb2 (Kp.two hb2 (Kp.ends hb2)))) K1.out)
  clear hb2 z1 K1
  have z2 := K2.out
  go_wp2_with fail
  refine (C2.out _).mono ?_
  rintro e w3 ⟨rfl, hb3⟩
  have K3 := Lib.hid ((Kp.two hb3 (Kp.two hb3 (Kp.two hb3 (Kp.ends hb3)))) K2.out)
  clear hb3 z2 K2
  have z3 := K3.out
  go_wp2_with fail
  go_ret
  exact ⟨by simp, K3.out.2.2.2.2.2.2.2⟩

set_option maxHeartbeats 4000000 in
set_option maxRecDepth 100000 in
theorem among_11 (k b : Nat) (x y x1 y1 x2 y2 : Int) (w : World) (h1 : 24 ≤ k) (h2 : k ≤ 31) (h3 : 1 ≤ b) (h4 : b ≤ 64) (hm : mayB x y = true) (hr : rmayB x1 y1 x2 y2 = true) : Calls Try.prog 4 #[.int .i64 k, .int .i64 b, .agg #[.int .i64 x, .int .i64 y], .agg #[.int .i64 x1, .int .i64 y1, .int .i64 x2, .int .i64 y2]] w fun e w' => e = .returned (.bool true) ∧ Below w.heap.size w w' := by
  have r1 := neq_arg_nil
  have r2 := neq_range_nil
  have r3 := neq_nil_nil
  obtain ⟨c, ec, uc⟩ := col_lst h1 h2 (mayB_bd hm).1
  obtain ⟨r, er, ur⟩ := col_lst h1 h2 (mayB_bd hm).2
  have C1 := Lib.hid (fun W => of_yes k b x y c r W h1 h2 h3 h4 hm ec er uc ur)
  obtain ⟨c1, r1', c2, r2', e1, e2, e3, e4, l1, l2, l3, l4⟩ := rect_lst h1 h2 hr
  have C2 := Lib.hid (fun W => all_yes k b x1 y1 x2 y2 c1 r1' c2 r2' W h1 h2 h3 h4 hr e1 e2 e3 e4 l1 l2 l3 l4)
  have C3 := Lib.hid (fun W => refIn_any x1 y1 x2 y2 x y W)
  have HC := Lib.hid (fun (i j : Nat) (hi : i ≤ r2') (hj : j ≤ c2) => code_le (c := j) (r := i) h1 h2 (Nat.le_trans hj l3) (Nat.le_trans hi l4))
  have hNb := owF_lt (g := gF k) (b := b) h3 (code_le h1 h2 uc ur)
  have HIN : Hid (inB x1 y1 x2 y2 x y = true → c1 ≤ c ∧ c ≤ c2 ∧ r1' ≤ r ∧ r ≤ r2') := Lib.hid (fun hi => by
    obtain ⟨i1, i2, i3, i4⟩ := inB_iff.1 hi
    have := col_mono (k := k) i1
    have := col_mono (k := k) i2
    have := col_mono (k := k) i3
    have := col_mono (k := k) i4
    omega)
  obtain ⟨g, eg⟩ : ∃ g, g = gF k := ⟨_, rfl⟩
  rw [← eg] at C1 C2 HC hNb
  obtain ⟨M, eM⟩ : ∃ M, M = owF g b (codeF 31 c r) := ⟨_, rfl⟩
  have HM : Hid ((M : Int) = owI g b (codeI c r)) := Lib.hid (by rw [eM]; exact (owI_nat g b _).symm)
  rw [← eM] at C1 hNb
  obtain ⟨I0, eI⟩ : ∃ I0, I0 = inB x1 y1 x2 y2 x y := ⟨_, rfl⟩
  rw [← eI] at C3 HIN
  obtain ⟨N, eN⟩ : ∃ N : Int, N = M := ⟨_, rfl⟩
  have hN0 : N ≥ 0 := by omega
  have hN1 : N < b := by omega
  rw [← eN] at C1 HM
  clear eN eg eM eI e1 e2 e3 e4 ec er uc ur l1 l2 l3 l4 hm hr h1 h2 hNb
  have L0 := (fun h => Kp.add0 h w.heap.size rfl (.int .i64 x) (.int .i64 y) 23) ⟨Nat.le_refl _, Below.refl w.heap.size w⟩
  have L1 := (Kp.two (Kp.behind _ (.cells #[.int .i64 x1, .int .i64 y1, .int .i64 x2, .int .i64 y2] 25)) (fun h => Kp.adq0 h (w.heap.size + 1) (by simp) (.int .i64 x1) (.int .i64 y1) (.int .i64 x2) (.int .i64 y2) 25)) L0
  have L := Lib.hid L1
  clear L0 L1
  have z := L.out
  go_enter Try.func4, Try.ntmps4
  go_wp2_with fail
  refine (up_any _).mono ?_
  rintro e w1 ⟨rfl, hb1⟩
  have K1 := Lib.hid ((Kp.two hb1 (Kp.two hb1 (Kp.two hb1 (Kp.ends hb1)))) L.out)
  clear hb1 z L
  have z1 := K1.out
  go_wp2_with fail
  refine (C1.out _).mono ?_
  rintro e w2 ⟨rfl, hb2⟩
  have K2 := Lib.hid ((Kp.two hb2 (Kp.two hb2 (Kp.two hb2 (Kp.ends hb2)))) K1.out)
  clear hb2 z1 K1
  have z2 := K2.out
  go_wp2_with fail
  refine (C2.out _).mono ?_
  rintro e w3 hA3
  unfold AllE at hA3
  obtain ⟨u1, zs, rfl, hz1, hmm1, hln, hrd, hb3⟩ := hA3
  obtain ⟨b1, cap1, rfl, hbl1, hcl1⟩ := hrd
  have HCL := Lib.hid hcl1
  have HZ1 := Lib.hid (And.intro hz1 hmm1)
  have HBL := Lib.hid hbl1
  obtain ⟨n, en⟩ : ∃ n, n = zs.length := ⟨_, rfl⟩
  have HN := Lib.hid en
  rw [← en] at hln ⊢
  clear hz1 hmm1 hcl1 hbl1 en
  have K3 := Lib.hid ((Kp.two hb3 (Kp.two hb3 (Kp.two hb3 (Kp.ends hb3)))) K2.out)
  clear hb3 z2 K2
  have z3 := K3.out
  go_wp2_with fail
  have HV : Hid (∀ t (ht : t < zs.length), 0 ≤ zs[t] ∧ zs[t] < b) := Lib.hid (fun t ht => by
    obtain ⟨i, j, a1, a2, a3, a4, a5⟩ := (HZ1.out.2 _).1 (List.getElem_mem ht)
    have := owF_lt (g := g) (b := b) h3 (HC.out i j a2 a4)
    rw [a5, show codeI j i = ((codeF 31 j i : Nat) : Int) from rfl, owI_nat]
    omega)
  have HR := Lib.hid (fun i j (hij : i < j) (hj : j < zs.length) => (List.pairwise_iff_getElem.1 HZ1.out.1) i j (by omega) hj hij)
  go_loopw [14, 15] (fun vm vi wr => HoO w3 n N zs vm vi wr) (fun _ vi _ => n - (intOf vi).toNat)
  case atStart => exact ⟨0, 0, rfl, rfl, Nat.zero_le _, rfl⟩
  case round =>
    obtain ⟨j, q, rfl, rfl, hj, hwr⟩ := hrel
    have HW := Lib.hid hwr
    by_cases hlt : j < n
    · have hlt2 : j < zs.length := by rw [← HN.out]; exact hlt
      obtain ⟨X, hX⟩ : ∃ X, X = zs[j] := ⟨_, rfl⟩
      obtain ⟨m, hm0⟩ : ∃ m, m = metO N zs j := ⟨_, rfl⟩
      have HMN := Lib.hid (metO_next (N := N) hlt2)
      rw [← hm0, ← hX] at HMN
      rw [← hm0]
      have ca : wr.cell? ⟨b1, j, none⟩ = some (.int .i64 X) := by rw [hwr, hX]; exact HCL.out j hlt2
      have hjz : (j : Int) < (n : Int) := by omega
      have hx0 : ¬ X < 0 := by rw [hX]; have := HV.out j hlt2; omega
      have hxb : ¬ X ≥ (b : Int) := by rw [hX]; have := HV.out j hlt2; omega
      have dx0 : decide (X < 0) = false := decide_eq_false hx0
      have dxb : decide (X ≥ (b : Int)) = false := decide_eq_false hxb
      have dxc : decide ((b : Int) ≤ X) = false := decide_eq_false hxb
      rcases Nat.eq_zero_or_pos j with hj0 | hj0
      · subst hj0
        clear hX hwr hlt2 hm0
        cases m
        all_goals
          go_wp2_with fail
          go_big_quiet (fail)
          go_wp2_with fail
          go_roundw
          case rel => first | exact ⟨1, q + nq, by rw [HMN.out]; simp, by simp, by omega, by rw [HW.out, World.drewN_drewN]⟩ | ((repeat apply Exists.intro); exact ⟨⟨1, q + nq, by rw [HMN.out]; simp, by first | rfl | simp, by omega, by rw [HW.out, World.drewN_drewN]⟩, rfl⟩)
          case measure => simp [intOf]; omega
      · have hl1 : j - 1 < zs.length := by omega
        obtain ⟨Y, hY⟩ : ∃ Y, Y = zs[j - 1] := ⟨_, rfl⟩
        have cb : wr.cell? ⟨b1, j - 1, none⟩ = some (.int .i64 Y) := by rw [hwr, hY]; exact HCL.out (j - 1) hl1
        have hYX : ¬ X ≤ Y := by rw [hX, hY]; have := HR.out (j - 1) j (by omega) hlt2; omega
        have hj0z : (j : Int) > 0 := by omega
        clear hX hwr hlt2 hm0 hY hl1
        cases m
        all_goals
          go_wp2_with fail
          go_big_quiet (fail)
          go_wp2_with fail
          go_roundw
          case rel => first | exact ⟨j + 1, q + nq, by rw [HMN.out]; simp, by simp, by omega, by rw [HW.out, World.drewN_drewN]⟩ | ((repeat apply Exists.intro); exact ⟨⟨j + 1, q + nq, by rw [HMN.out]; simp, by first | rfl | simp, by omega, by rw [HW.out, World.drewN_drewN]⟩, rfl⟩)
          case measure => simp [intOf]; omega
    · have hjz : ¬ (j : Int) < (n : Int) := by omega
      obtain rfl : j = n := by omega
      have hme : I0 = true → metO N zs j = true := fun hi => by
        obtain ⟨a1, a2, a3, a4⟩ := HIN.out hi
        rw [HN.out, metO_all, decide_eq_true_eq, HZ1.out.2]
        exact ⟨r, c, a3, a4, a1, a2, HM.out⟩
      obtain ⟨m, hm0⟩ : ∃ m, m = metO N zs j := ⟨_, rfl⟩
      rw [← hm0] at hme ⊢
      have HME := Lib.hid hme
      have KF := Lib.hid (show wr.cell? ⟨w.heap.size, 0, none⟩ = some (.int .i64 x) ∧ wr.cell? ⟨w.heap.size, 1, none⟩ = some (.int .i64 y) ∧ wr.cell? ⟨w.heap.size + 1, 0, none⟩ = some (.int .i64 x1) ∧ wr.cell? ⟨w.heap.size + 1, 1, none⟩ = some (.int .i64 y1) ∧ wr.cell? ⟨w.heap.size + 1, 2, none⟩ = some (.int .i64 x2) ∧ wr.cell? ⟨w.heap.size + 1, 3, none⟩ = some (.int .i64 y2) ∧ w.heap.size ≤ wr.heap.size ∧ Below w.heap.size w wr from by rw [hwr]; exact ⟨K3.out.1, K3.out.2.1, K3.out.2.2.1, K3.out.2.2.2.1, K3.out.2.2.2.2.1, K3.out.2.2.2.2.2.1, K3.out.2.2.2.2.2.2.1, bdrew K3.out.2.2.2.2.2.2.2 q⟩)
      have zf := KF.out
      clear hwr HW hm0 hme
      go_wp2_with fail
      refine (C3.out _).mono ?_
      rintro e w20 ⟨rfl, hb20⟩
      have BF := Lib.hid ((KF.out.2.2.2.2.2.2.2).trans (hb20.mono KF.out.2.2.2.2.2.2.1))
      cases I0
      · go_wp2_with fail
        go_ret
        exact ⟨by simp, BF.out⟩
      · obtain rfl : m = true := HME.out rfl
        go_wp2_with fail
        go_ret
        exact ⟨by simp, BF.out⟩

theorem among_all (s b x y x1 y1 x2 y2 : Int) (w : World) : Calls Try.prog 4 #[.int .i64 s, .int .i64 b, .agg #[.int .i64 x, .int .i64 y], .agg #[.int .i64 x1, .int .i64 y1, .int .i64 x2, .int .i64 y2]] w fun e w' => e = .returned (.bool true) ∧ Below w.heap.size w w' := by
  cases h : shB s && brB b
  · exact among_arg s b x y x1 y1 x2 y2 w h
  · obtain ⟨hs, hb⟩ := Bool.and_eq_true_iff.1 h
    obtain ⟨k, rfl, h1, h2⟩ := shB_nat hs
    obtain ⟨b', rfl, h3, h4⟩ := brB_nat hb
    cases hm : mayB x y <;> cases hr : rmayB x1 y1 x2 y2
    · exact among_00 k b' x y x1 y1 x2 y2 w h1 h2 h3 h4 hm hr
    · exact among_01 k b' x y x1 y1 x2 y2 w h1 h2 h3 h4 hm hr
    · exact among_10 k b' x y x1 y1 x2 y2 w h1 h2 h3 h4 hm hr
    · exact among_11 k b' x y x1 y1 x2 y2 w h1 h2 h3 h4 hm hr
end Go.Proofs.Ytkkolodolmppnaa.Ow
