/-
  The walk of CoverTells: it returns true. Memory that was there is left as it was.
-/
import Derived.Test.YtdklmempblidoaaCvUp
import Derived.Test.YtdklmempblidoaaCvBox
import Derived.Test.YtdklmempblidoaaCvRefC
import Derived.Test.YtdklmempblidoaaCvRefCov
import Derived.Test.YtdklmempblidoaaMoRefT
namespace Go.Proofs.Ytdklmempblidoaa.Cv
open Go.RowKit Go.Proofs.Ytdklmempblidoaa.Pt Go.Proofs.Ytdklmempblidoaa.Rc Go.Proofs.Ytdklmempblidoaa.So Go.Proofs.Ytdklmempblidoaa.Mo
set_option linter.unusedVariables false

/-- Rising lists of one block's cells are one list. -/
theorem cells_mem {a1 b1 a2 b2 : Nat} {ps qs : List Int} (h : Cells codeI a1 b1 a2 b2 ps) (h' : Cells (fun i j => codeI j i) b1 a1 b2 a2 qs) : ∀ x, x ∈ ps ↔ x ∈ qs := fun x => by
  rw [h.2.1, h'.2.1]
  constructor
  · rintro ⟨i, j, h1, h2, h3, h4, h5⟩; exact ⟨j, i, h3, h4, h1, h2, h5⟩
  · rintro ⟨i, j, h1, h2, h3, h4, h5⟩; exact ⟨j, i, h3, h4, h1, h2, h5⟩
theorem rise_ext : ∀ {xs ys : List Int}, Up xs → Up ys → xs.Nodup → ys.Nodup → (∀ x, x ∈ xs ↔ x ∈ ys) → xs = ys
  | [], [], _, _, _, _, _ => rfl
  | [], y :: ys, _, _, _, _, h => absurd ((h y).2 (by simp)) (by simp)
  | x :: xs, [], _, _, _, _, h => absurd ((h x).1 (by simp)) (by simp)
  | x :: xs, y :: ys, h1, h2, h3, h4, h => by
    have e : x = y := by
      rcases List.mem_cons.1 ((h x).1 (by simp)) with e | m1
      · exact e
      · rcases List.mem_cons.1 ((h y).2 (by simp)) with e | m2
        · exact e.symm
        · have := up_head h1 y m2; have := up_head h2 x m1; omega
    subst e
    have n3 := List.nodup_cons.1 h3
    have n4 := List.nodup_cons.1 h4
    rw [rise_ext (up_tail h1) (up_tail h2) n3.2 n4.2 fun z => ?_]
    constructor
    · intro hz
      rcases List.mem_cons.1 ((h z).1 (List.mem_cons_of_mem _ hz)) with e | m
      · subst e; exact absurd hz n3.1
      · exact m
    · intro hz
      rcases List.mem_cons.1 ((h z).2 (List.mem_cons_of_mem _ hz)) with e | m
      · subst e; exact absurd hz n4.1
      · exact m
theorem rise_one {a1 b1 a2 b2 : Nat} {ps qs xs ys : List Int} (hx : Up xs) (hy : Up ys) (h1 : xs.Perm ps) (h2 : ys.Perm qs) (h : Cells codeI a1 b1 a2 b2 ps) (h' : Cells (fun i j => codeI j i) b1 a1 b2 a2 qs) : xs = ys :=
  rise_ext hx hy (h1.nodup_iff.2 h.1) (h2.nodup_iff.2 h'.1) fun x => by rw [h1.mem_iff, h2.mem_iff]; exact cells_mem h h' x
/-- Covers are one just where their boxes are. -/
theorem box_eq {k : Nat} {ax1 ay1 ax2 ay2 bx1 by1 bx2 by2 : Int} (ha : rmayB ax1 ay1 ax2 ay2 = true) (hb : rmayB bx1 by1 bx2 by2 = true) :
    eqB (firI k (colI k bx1)) (firI k (colI k by1)) (lasI k (colI k bx2)) (lasI k (colI k by2)) (firI k (colI k ax1)) (firI k (colI k ay1)) (lasI k (colI k ax2)) (lasI k (colI k ay2)) =
      eqB (colI k ax1) (colI k ay1) (colI k ax2) (colI k ay2) (colI k bx1) (colI k by1) (colI k bx2) (colI k by2) := by
  obtain ⟨_, _, a1, _, _, a2⟩ := rmayB_bd ha
  obtain ⟨_, _, b1, _, _, b2⟩ := rmayB_bd hb
  rw [Bool.eq_iff_iff, eqB_iff, eqB_iff]
  constructor
  · rintro ⟨h1, h2, h3, h4⟩
    have h1 := congrArg (colI k) h1
    have h2 := congrArg (colI k) h2
    have h3 := congrArg (colI k) h3
    have h4 := congrArg (colI k) h4
    rw [col_fir, col_fir] at h1 h2
    rw [col_las b1, col_las a1] at h3
    rw [col_las b2, col_las a2] at h4
    exact ⟨h1.symm, h2.symm, h3.symm, h4.symm⟩
  · rintro ⟨h1, h2, h3, h4⟩
    rw [h1, h2, h3, h4]
    exact ⟨rfl, rfl, rfl, rfl⟩
theorem Rd.fwd {W V : World} {v : Value} {xs : List Int} (h : Rd W W.heap.size v xs) (hb : Below W.heap.size W V) : Rd V V.heap.size v xs := (h.later hb).wide hb.size (Nat.le_refl _)
def TeR (W : World) (n : Nat) (vi : Value) (wr : World) : Prop := ∃ j q : Nat, vi = .int .i64 j ∧ j ≤ n ∧ wr = W.drewN q
theorem col_nat {k : Nat} {n : Int} (h1 : 24 ≤ k) (h2 : k ≤ 31) (hn : inR n = true) : ∃ c : Nat, colI k n = c ∧ c ≤ 190 := by
  obtain ⟨a, b⟩ := inR_iff.1 hn
  have h3 := colI_nonneg (s := k) a
  have h4 := colI_lt (s := k) h2 b
  have h5 := (sideI_bd h1 h2).2
  exact ⟨(colI k n).toNat, by omega, by omega⟩

set_option maxHeartbeats 4000000 in
theorem tells_no (s ax1 ay1 ax2 ay2 bx1 by1 bx2 by2 : Int) (w : World) (hno : (shB s && rmayB ax1 ay1 ax2 ay2) = false) : Calls Try.prog 3 #[.int .i64 s, .agg #[.int .i64 ax1, .int .i64 ay1, .int .i64 ax2, .int .i64 ay2], .agg #[.int .i64 bx1, .int .i64 by1, .int .i64 bx2, .int .i64 by2]] w fun e w' => e = .returned (.bool true) ∧ Below w.heap.size w w' := by
  have q1 := eql_arg
  cases hs : shB s
  · cases hx : rmayB ax1 ay1 ax2 ay2
    all_goals
      have K0 := Lib.hid (Kp.adq4 (Kp.adq0 ⟨Nat.le_refl _, Below.refl w.heap.size w⟩ w.heap.size rfl (.int .i64 ax1) (.int .i64 ay1) (.int .i64 ax2) (.int .i64 ay2) 23) (w.heap.size + 1) (by simp) (.int .i64 bx1) (.int .i64 by1) (.int .i64 bx2) (.int .i64 by2) 23)
      go_enter Try.func3, Try.ntmps3
      go_wp2_with fail
      refine (up_any _).mono ?_
      rintro e w1 ⟨rfl, hb1⟩
      have K1 := Kp.keep8 hb1 K0.out
      clear K0 hb1
      go_wp2_with fail
      refine (refShift_any _ _).mono ?_
      rintro e wz ⟨rfl, rfl⟩
      go_wp2_with fail
      refine (refRect_any _ _ _ _ _).mono ?_
      rintro e w2 ⟨rfl, hb2⟩
      have K2 := Kp.keep8 hb2 K1
      clear K1 hb2
      go_wp2_with fail
      refine (refRect_any _ _ _ _ _).mono ?_
      rintro e w3 ⟨rfl, hb3⟩
      have K3 := Kp.keep8 hb3 K2
      clear K2 hb3
      go_wp2_with fail
      refine (cells_no s ax1 ay1 ax2 ay2 _ hno).mono ?_
      rintro e w4 ⟨rfl, hb4⟩
      have K4 := Kp.keep8 hb4 K3
      clear K3 hb4
      go_wp2_with fail
      refine (cbox_no s ax1 ay1 ax2 ay2 _ hno).mono ?_
      rintro e w5 ⟨rfl, hb5⟩
      have L5 := Kp.keep8 hb5 K4
      have K5 := Kp.adq8 L5 w5.heap.size rfl (.int .i64 0) (.int .i64 0) (.int .i64 0) (.int .i64 0) 23
      clear K4 hb5
      go_wp2_with fail
      refine (same_a s ax1 ay1 ax2 ay2 bx1 by1 bx2 by2 _ hno).mono ?_
      rintro e w6 ⟨rfl, hb6⟩
      have K6 := Lib.hid (Kp.keep12 hb6 K5)
      clear K5 L5 hb6
      go_wp2_with fail
      go_ret
      exact ⟨by simp, Kp.end12 K6.out⟩
  · have hx : rmayB ax1 ay1 ax2 ay2 = false := by rw [hs, Bool.true_and] at hno; exact hno
    have K0 := Lib.hid (Kp.adq4 (Kp.adq0 ⟨Nat.le_refl _, Below.refl w.heap.size w⟩ w.heap.size rfl (.int .i64 ax1) (.int .i64 ay1) (.int .i64 ax2) (.int .i64 ay2) 23) (w.heap.size + 1) (by simp) (.int .i64 bx1) (.int .i64 by1) (.int .i64 bx2) (.int .i64 by2) 23)
    go_enter Try.func3, Try.ntmps3
    go_wp2_with fail
    refine (up_any _).mono ?_
    rintro e w1 ⟨rfl, hb1⟩
    have K1 := Kp.keep8 hb1 K0.out
    clear K0 hb1
    go_wp2_with fail
    refine (refShift_any _ _).mono ?_
    rintro e wz ⟨rfl, rfl⟩
    go_wp2_with fail
    refine (refRect_any _ _ _ _ _).mono ?_
    rintro e w2 ⟨rfl, hb2⟩
    have K2 := Kp.keep8 hb2 K1
    clear K1 hb2
    go_wp2_with fail
    refine (refRect_any _ _ _ _ _).mono ?_
    rintro e w3 ⟨rfl, hb3⟩
    have K3 := Kp.keep8 hb3 K2
    clear K2 hb3
    go_wp2_with fail
    refine (cells_no s ax1 ay1 ax2 ay2 _ hno).mono ?_
    rintro e w4 ⟨rfl, hb4⟩
    have K4 := Kp.keep8 hb4 K3
    clear K3 hb4
    go_wp2_with fail
    refine (cbox_no s ax1 ay1 ax2 ay2 _ hno).mono ?_
    rintro e w5 ⟨rfl, hb5⟩
    have L5 := Kp.keep8 hb5 K4
    have K5 := Kp.adq8 L5 w5.heap.size rfl (.int .i64 0) (.int .i64 0) (.int .i64 0) (.int .i64 0) 23
    clear K4 hb5
    go_wp2_with fail
    refine (same_a s ax1 ay1 ax2 ay2 bx1 by1 bx2 by2 _ hno).mono ?_
    rintro e w6 ⟨rfl, hb6⟩
    have K6 := Lib.hid (Kp.keep12 hb6 K5)
    clear K5 L5 hb6
    go_wp2_with fail
    go_ret
    exact ⟨by simp, Kp.end12 K6.out⟩

set_option maxHeartbeats 8000000 in
set_option maxRecDepth 100000 in
theorem tells_yes (k : Nat) (ax1 ay1 ax2 ay2 bx1 by1 bx2 by2 : Int) (w : World) (h1 : 24 ≤ k) (h2 : k ≤ 31) (ha : rmayB ax1 ay1 ax2 ay2 = true) : Calls Try.prog 3 #[.int .i64 k, .agg #[.int .i64 ax1, .int .i64 ay1, .int .i64 ax2, .int .i64 ay2], .agg #[.int .i64 bx1, .int .i64 by1, .int .i64 bx2, .int .i64 by2]] w fun e w' => e = .returned (.bool true) ∧ Below w.heap.size w w' := by
  have q1 := neq_nil_nil
  have q2 := eql_nil_nil
  have hs := shB_of h1 h2
  obtain ⟨m1, m2⟩ := rmay_two ha
  obtain ⟨ba, bb, bc, bd, be, bf⟩ := rmayB_bd ha
  obtain ⟨c1, e1, u1⟩ := col_nat h1 h2 (mayB_bd m1).1
  obtain ⟨r1, e2, u2⟩ := col_nat h1 h2 (mayB_bd m1).2
  obtain ⟨c2, e3, u3⟩ := col_nat h1 h2 (mayB_bd m2).1
  obtain ⟨r2, e4, u4⟩ := col_nat h1 h2 (mayB_bd m2).2
  have hcc : c1 ≤ c2 := by have := col_mono (k := k) bb; omega
  have hrr : r1 ≤ r2 := by have := col_mono (k := k) be; omega
  have C1 := Lib.hid (fun W => cells_yes k ax1 ay1 ax2 ay2 c1 r1 c2 r2 W h1 h2 ha e1 e2 e3 e4 hcc hrr u3 u4)
  have C2 := Lib.hid (fun W => cbox_yes k ax1 ay1 ax2 ay2 W h1 h2 ha)
  have C3 := Lib.hid (fun W => refCells_any k ax1 ay1 ax2 ay2 c1 r1 c2 r2 W h1 h2 ha e1 e2 e3 e4 hcc hrr u3 u4)
  have C4 := Lib.hid (fun W => refCover_any k ax1 ay1 ax2 ay2 W h1 h2 ha)
  have BE := Lib.hid (fun (hb : rmayB bx1 by1 bx2 by2 = true) => box_eq (k := k) ha hb)
  have C6 := Lib.hid (fun (hb : rmayB bx1 by1 bx2 by2 = true) W => same_yes k ax1 ay1 ax2 ay2 bx1 by1 bx2 by2 W h1 h2 ha hb)
  have C7 := Lib.hid (fun (hb : rmayB bx1 by1 bx2 by2 = false) W => same_b k ax1 ay1 ax2 ay2 bx1 by1 bx2 by2 W h1 h2 ha hb)
  obtain ⟨f1, g1⟩ : ∃ c, c = firI k (colI k ax1) := ⟨_, rfl⟩
  obtain ⟨f2, g2⟩ : ∃ c, c = firI k (colI k ay1) := ⟨_, rfl⟩
  obtain ⟨l3, g3⟩ : ∃ c, c = lasI k (colI k ax2) := ⟨_, rfl⟩
  obtain ⟨l4, g4⟩ : ∃ c, c = lasI k (colI k ay2) := ⟨_, rfl⟩
  rw [← g1, ← g2, ← g3, ← g4] at C2 C4 BE
  clear m1 m2 ba bb bc bd be bf u1 u2 hcc hrr e1 e2 e3 e4 g1 g2 g3 g4
  have K0 := Lib.hid (Kp.adq4 (Kp.adq0 ⟨Nat.le_refl _, Below.refl w.heap.size w⟩ w.heap.size rfl (.int .i64 ax1) (.int .i64 ay1) (.int .i64 ax2) (.int .i64 ay2) 23) (w.heap.size + 1) (by simp) (.int .i64 bx1) (.int .i64 by1) (.int .i64 bx2) (.int .i64 by2) 23)
  go_enter Try.func3, Try.ntmps3
  go_wp2_with fail
  refine (up_any _).mono ?_
  rintro e w1 ⟨rfl, hb1⟩
  have K1 := Kp.keep8 hb1 K0.out
  clear K0 hb1
  go_wp2_with fail
  refine (refShift_any _ _).mono ?_
  rintro e wz ⟨rfl, rfl⟩
  go_wp2_with fail
  refine (refRect_any _ _ _ _ _).mono ?_
  rintro e w2 ⟨rfl, hb2⟩
  have K2 := Kp.keep8 hb2 K1
  clear K1 hb2
  go_wp2_with fail
  refine (refRect_any _ _ _ _ _).mono ?_
  rintro e w3 ⟨rfl, hb3⟩
  have K3 := Kp.keep8 hb3 K2
  clear K2 hb3
  go_wp2_with fail
  refine (C1.out _).mono ?_
  rintro e w4 ⟨u, ps, ys, rfl, hps, hpp, hup, hrd, hb4⟩
  have K4 := Kp.keep8 hb4 K3
  have RD4 := Lib.hid hrd
  clear K3 hb4
  obtain ⟨b1, o1, cap1, rfl, _⟩ := hrd
  go_wp2_with fail
  refine (C2.out _).mono ?_
  rintro e w5 ⟨rfl, hb5⟩
  have L5 := Kp.keep8 hb5 K4
  have K5 := Kp.adq8 L5 w5.heap.size rfl (.int .i64 f1) (.int .i64 f2) (.int .i64 l3) (.int .i64 l4) 23
  have RD5 := Lib.hid ((RD4.out.fwd hb5).fwd (Kp.behind w5 (.cells #[.int .i64 f1, .int .i64 f2, .int .i64 l3, .int .i64 l4] 23)))
  clear K4 RD4 hb5
  go_wp2_with fail
  refine (C3.out _).mono ?_
  rintro e w6a ⟨u2, ps2, ys2, rfl, hps2, hpp2, hup2, hrd2, hb6⟩
  have K6a := Kp.keep12 hb6 K5
  have RD6 := Lib.hid (RD5.out.fwd hb6)
  have hys : ys2 = ys := rise_one hup2 hup hpp2 hpp hps2 hps
  subst hys
  have hmx : ys2.length ≤ 191 * 191 := by rw [hpp2.length_eq, hps2.2.2]; exact Nat.mul_le_mul (by omega) (by omega)
  have RE6 := Lib.hid hrd2
  obtain ⟨b2, o2, cap2, rfl, _⟩ := hrd2
  clear K5 L5 RD5 hb6 hps hps2 hpp hpp2 hup hup2
  go_wp2_with fail
  refine (C4.out _).mono ?_
  rintro e w6b ⟨rfl, hb7⟩
  have L7 := Kp.keep12 hb7 K6a
  have K7 := Kp.adq12 L7 w6b.heap.size rfl (.int .i64 f1) (.int .i64 f2) (.int .i64 l3) (.int .i64 l4) 23
  have RD7 := Lib.hid ((RD6.out.fwd hb7).fwd (Kp.behind w6b (.cells #[.int .i64 f1, .int .i64 f2, .int .i64 l3, .int .i64 l4] 23)))
  have RE7 := Lib.hid ((RE6.out.fwd hb7).fwd (Kp.behind w6b (.cells #[.int .i64 f1, .int .i64 f2, .int .i64 l3, .int .i64 l4] 23)))
  clear K6a RD6 RE6 hb7
  obtain ⟨b1', o1', cap1', ee, _, _, _, hc1⟩ := RD7.out
  simp at ee
  obtain ⟨⟨rfl, rfl⟩, rfl⟩ := ee
  obtain ⟨b2', o2', cap2', ee, _, _, _, hc2⟩ := RE7.out
  simp at ee
  obtain ⟨⟨rfl, rfl⟩, rfl⟩ := ee
  have HC1 := Lib.hid hc1
  have HC2 := Lib.hid hc2
  clear hc1 hc2 RD7 RE7
  obtain ⟨n, hn⟩ : ∃ n, n = ys2.length := ⟨_, rfl⟩
  have HN := Lib.hid hn
  rw [← hn] at hmx ⊢
  have KH := Lib.hid K7
  clear hn
  go_wp2_with fail
  generalize hW8 : w6b.alloc (.cells #[.int .i64 f1, .int .i64 f2, .int .i64 l3, .int .i64 l4] 23) = W8 at *
  clear L7 K7 hW8
  obtain ⟨g, hg⟩ : ∃ g, g = w6b.heap.size := ⟨_, rfl⟩
  rw [← hg] at KH ⊢
  clear hg
  go_loopw [17] (fun vi wr => TeR W8 n vi wr) (fun vi _ => n - nOf vi)
  case atStart => exact ⟨0, 0, rfl, Nat.zero_le _, rfl⟩
  case round =>
    obtain ⟨j, q, rfl, hj, hwr⟩ := hrel
    have HW := Lib.hid hwr
    by_cases hlt : j < n
    · have hlt2 : j < ys2.length := by rw [← HN.out]; exact hlt
      obtain ⟨X, hX⟩ : ∃ X, X = ys2[j] := ⟨_, rfl⟩
      have ca : wr.cell? ⟨b1, o1 + j, none⟩ = some (.int .u64 X) := by rw [hwr, hX]; exact HC1.out j hlt2
      have cb : wr.cell? ⟨b2, o2 + j, none⟩ = some (.int .u64 X) := by rw [hwr, hX]; exact HC2.out j hlt2
      have hjz : (j : Int) < (n : Int) := by omega
      clear hX hwr hlt2
      go_wp2_with fail
      go_quiet (fail)
      go_wp2_with fail
      go_roundw
      case rel => first | exact ⟨j + 1, q + nq, by simp, by omega, by rw [HW.out, World.drewN_drewN]⟩ | ((repeat apply Exists.intro); exact ⟨⟨j + 1, q + nq, by first | rfl | simp, by omega, by rw [HW.out, World.drewN_drewN]⟩, rfl⟩)
      case measure => simp [nOf]; omega
    · have hjz : ¬ (j : Int) < (n : Int) := by omega
      have KW := Kp.keep16 (bdrew (Below.refl _ W8) q) KH.out
      rw [← hwr] at KW
      obtain ⟨k1, k2, k3, k4, k5, k6, k7, k8, _, _, _, _, k13, k14, k15, k16, k17, k18⟩ := KW
      have KD := Lib.hid (⟨k1, k2, k3, k4, k5, k6, k7, k8, k13, k14, k15, k16, k17, k18.drew⟩ : wr.drew.cell? ⟨w.heap.size, 0, none⟩ = some (.int .i64 ax1) ∧ wr.drew.cell? ⟨w.heap.size, 1, none⟩ = some (.int .i64 ay1) ∧ wr.drew.cell? ⟨w.heap.size, 2, none⟩ = some (.int .i64 ax2) ∧ wr.drew.cell? ⟨w.heap.size, 3, none⟩ = some (.int .i64 ay2) ∧ wr.drew.cell? ⟨w.heap.size + 1, 0, none⟩ = some (.int .i64 bx1) ∧ wr.drew.cell? ⟨w.heap.size + 1, 1, none⟩ = some (.int .i64 by1) ∧ wr.drew.cell? ⟨w.heap.size + 1, 2, none⟩ = some (.int .i64 bx2) ∧ wr.drew.cell? ⟨w.heap.size + 1, 3, none⟩ = some (.int .i64 by2) ∧ wr.drew.cell? ⟨g, 0, none⟩ = some (.int .i64 f1) ∧ wr.drew.cell? ⟨g, 1, none⟩ = some (.int .i64 f2) ∧ wr.drew.cell? ⟨g, 2, none⟩ = some (.int .i64 l3) ∧ wr.drew.cell? ⟨g, 3, none⟩ = some (.int .i64 l4) ∧ w.heap.size ≤ wr.drew.heap.size ∧ Below w.heap.size w wr.drew)
      clear hwr
      cases hb : rmayB bx1 by1 bx2 by2
      · have K9 := Lib.hid (⟨k1, k2, k3, k4, k5, k6, k7, k8, k17, k18⟩ : wr.cell? ⟨w.heap.size, 0, none⟩ = some (.int .i64 ax1) ∧ wr.cell? ⟨w.heap.size, 1, none⟩ = some (.int .i64 ay1) ∧ wr.cell? ⟨w.heap.size, 2, none⟩ = some (.int .i64 ax2) ∧ wr.cell? ⟨w.heap.size, 3, none⟩ = some (.int .i64 ay2) ∧ wr.cell? ⟨w.heap.size + 1, 0, none⟩ = some (.int .i64 bx1) ∧ wr.cell? ⟨w.heap.size + 1, 1, none⟩ = some (.int .i64 by1) ∧ wr.cell? ⟨w.heap.size + 1, 2, none⟩ = some (.int .i64 bx2) ∧ wr.cell? ⟨w.heap.size + 1, 3, none⟩ = some (.int .i64 by2) ∧ w.heap.size ≤ wr.heap.size ∧ Below w.heap.size w wr)
        go_wp2_with fail
        refine (C7.out hb _).mono ?_
        rintro e w9 ⟨rfl, hb9⟩
        have BF := Lib.hid (Kp.end8 (Kp.keep8 hb9 K9.out))
        clear k1 k2 k3 k4 k5 k6 k7 k8 k13 k14 k15 k16 k17 k18 hb9
        go_wp2_with fail
        go_ret
        exact ⟨by simp, BF.out⟩
      · have C8 := Lib.hid (fun W => refCover_any k bx1 by1 bx2 by2 W h1 h2 hb)
        have C9 := Lib.hid (C6.out hb)
        obtain ⟨Q, hQ⟩ : ∃ Q, Q = eqB (colI k ax1) (colI k ay1) (colI k ax2) (colI k ay2) (colI k bx1) (colI k by1) (colI k bx2) (colI k by2) := ⟨_, rfl⟩
        have hq := BE.out hb
        rw [← hQ] at hq C9
        obtain ⟨F1, g1⟩ : ∃ c, c = firI k (colI k bx1) := ⟨_, rfl⟩
        obtain ⟨F2, g2⟩ : ∃ c, c = firI k (colI k by1) := ⟨_, rfl⟩
        obtain ⟨L3, g3⟩ : ∃ c, c = lasI k (colI k bx2) := ⟨_, rfl⟩
        obtain ⟨L4, g4⟩ : ∃ c, c = lasI k (colI k by2) := ⟨_, rfl⟩
        rw [← g1, ← g2, ← g3, ← g4] at hq C8
        have HQ := Lib.hid hq
        clear hq hQ g1 g2 g3 g4
        go_wp2_with fail
        clear k1 k2 k3 k4 k5 k6 k7 k8 k13 k14 k15 k16 k17 k18
        refine wp_region_held_drew (S := (fun W => W.cell? ⟨w.heap.size, 0, none⟩ = some (.int .i64 ax1) ∧ W.cell? ⟨w.heap.size, 1, none⟩ = some (.int .i64 ay1) ∧ W.cell? ⟨w.heap.size, 2, none⟩ = some (.int .i64 ax2) ∧ W.cell? ⟨w.heap.size, 3, none⟩ = some (.int .i64 ay2) ∧ W.cell? ⟨w.heap.size + 1, 0, none⟩ = some (.int .i64 bx1) ∧ W.cell? ⟨w.heap.size + 1, 1, none⟩ = some (.int .i64 by1) ∧ W.cell? ⟨w.heap.size + 1, 2, none⟩ = some (.int .i64 bx2) ∧ W.cell? ⟨w.heap.size + 1, 3, none⟩ = some (.int .i64 by2) ∧ W.cell? ⟨g, 0, none⟩ = some (.int .i64 f1) ∧ W.cell? ⟨g, 1, none⟩ = some (.int .i64 f2) ∧ W.cell? ⟨g, 2, none⟩ = some (.int .i64 l3) ∧ W.cell? ⟨g, 3, none⟩ = some (.int .i64 l4) ∧ w.heap.size ≤ W.heap.size ∧ Below w.heap.size w W)) (by kernel_rfl) KD.out (fun hHeld => ?_)
        refine wpAnyH_take (i := 0) (v := ?v0) rfl (by kernel_rfl) (by kernel_rfl) (by kernel_rfl) (fun _ _ _ h => h) (Or.inl ⟨by rfl, ?y0⟩) hHeld ?r0
        case y0 => (intro W hSw; simp only [List.getElem_toArray, List.getElem_cons_zero]; go_simp; try (with_reducible rfl))
        simp only [List.getElem_toArray, List.getElem_cons_zero, Act.put, List.setIfInBounds_toArray, List.set_cons_zero, List.set_cons_succ]
        refine wpAnyH_take (i := 1) (v := ?v1) rfl (by kernel_rfl) (by kernel_rfl) (by kernel_rfl) (fun _ _ _ h => h) (Or.inl ⟨by rfl, ?y1⟩) hHeld ?r1
        case y1 => (intro W hSw; simp only [List.getElem_toArray, List.getElem_cons_succ, List.getElem_cons_zero]; go_simp; try (with_reducible rfl))
        simp only [List.getElem_toArray, List.getElem_cons_succ, List.getElem_cons_zero, Act.put, List.setIfInBounds_toArray, List.set_cons_zero, List.set_cons_succ]
        refine wpAnyH_take (i := 3) (v := ?v3) rfl (by kernel_rfl) (by kernel_rfl) (by kernel_rfl) (fun _ _ _ h => h) (Or.inl ⟨by rfl, ?y3⟩) hHeld ?r3
        case y3 => (intro W hSw; simp only [List.getElem_toArray, List.getElem_cons_succ, List.getElem_cons_zero]; go_simp; try (with_reducible rfl))
        simp only [List.getElem_toArray, List.getElem_cons_succ, List.getElem_cons_zero, Act.put, List.setIfInBounds_toArray, List.set_cons_zero, List.set_cons_succ]
        refine wpAnyH_ready (rs := [2]) (by kernel_rfl) (by simp) (AllReadyH.cons rfl (fun K hK => ?_) AllReadyH.nil)
        simp only [List.getElem_toArray, List.getElem_cons_succ, List.getElem_cons_zero]
        go_simp
        go_at_call 12; refine (C8.out _).mono ?_; rintro e w9 ⟨rfl, hb9⟩
        try go_wp2_with fail
        refine hK.out _ _ (Kp.keep12 hb9 hHeld) (fun hHeld1 => ?_)
        clear hK K hHeld
        have hHeld := hHeld1; clear hHeld1
        try simp only [List.getElem_toArray, List.getElem_cons_succ, List.getElem_cons_zero, Act.put, List.setIfInBounds_toArray, List.set_cons_zero, List.set_cons_succ]
        refine wpAnyH_take (i := 4) (v := .bool Q) rfl (by kernel_rfl) (by kernel_rfl) (by kernel_rfl) (fun _ _ _ h => h) (Or.inl ⟨by rfl, ?y4⟩) hHeld ?r4
        case y4 => (intro W hSw; simp only [List.getElem_toArray, List.getElem_cons_succ, List.getElem_cons_zero]; go_simp; (rw [← HQ.out]; by_cases t1 : F1 = f1 <;> by_cases t2 : F2 = f2 <;> by_cases t3 : L3 = l3 <;> by_cases t4 : L4 = l4 <;> simp [eqB, t1, t2, t3, t4]))
        simp only [List.getElem_toArray, List.getElem_cons_succ, List.getElem_cons_zero, Act.put, List.setIfInBounds_toArray, List.set_cons_zero, List.set_cons_succ]
        refine wpAnyH_take (i := 5) (v := ?v5) rfl (by kernel_rfl) (by kernel_rfl) (by kernel_rfl) (fun _ _ _ h => h) (Or.inl ⟨by rfl, ?y5⟩) hHeld ?r5
        case y5 => (intro W hSw; simp only [List.getElem_toArray, List.getElem_cons_succ, List.getElem_cons_zero]; go_simp; try (with_reducible rfl))
        simp only [List.getElem_toArray, List.getElem_cons_succ, List.getElem_cons_zero, Act.put, List.setIfInBounds_toArray, List.set_cons_zero, List.set_cons_succ]
        refine wpAnyH_done (by kernel_rfl) ?_ _
        go_wp2_with fail
        refine (C9.out _).mono ?_
        rintro e w10 ⟨rfl, hb10⟩
        have BF := Lib.hid (Kp.end12 (Kp.keep12 hb10 hHeld))
        clear hHeld hb10
        go_wp2_with fail
        go_ret
        exact ⟨by simp, BF.out⟩

theorem tells_law (s ax1 ay1 ax2 ay2 bx1 by1 bx2 by2 : Int) (w : World) : Calls Try.prog 3 #[.int .i64 s, .agg #[.int .i64 ax1, .int .i64 ay1, .int .i64 ax2, .int .i64 ay2], .agg #[.int .i64 bx1, .int .i64 by1, .int .i64 bx2, .int .i64 by2]] w fun e w' => e = .returned (.bool true) ∧ Below w.heap.size w w' := by
  cases h : (shB s && rmayB ax1 ay1 ax2 ay2)
  · exact tells_no s ax1 ay1 ax2 ay2 bx1 by1 bx2 by2 w h
  · rw [Bool.and_eq_true] at h
    obtain ⟨k, rfl, h1, h2⟩ := shB_nat h.1
    exact tells_yes k ax1 ay1 ax2 ay2 bx1 by1 bx2 by2 w h1 h2 h.2
end Go.Proofs.Ytdklmempblidoaa.Cv
