/-
  The walk of the statement RegionMoves: whatever region and point it is given, it returns true, and memory that was there is left as it was.
-/
import Derived.Test.YtiggjaodfmelpaaRgUp
import Derived.Test.YtiggjaodfmelpaaRgSame
import Derived.Test.YtiggjaodfmelpaaRgRMoveP
namespace Go.Proofs.Ytiggjaodfmelpaa.Rg
open Go.RowKit Go.Proofs.Ytiggjaodfmelpaa.Pt Go.Proofs.Ytiggjaodfmelpaa.Rc Go.Proofs.Ytiggjaodfmelpaa.Pts Go.Proofs.Ytiggjaodfmelpaa.Pl
set_option linter.unusedVariables false
set_option linter.unusedSimpArgs false

theorem pts_go {W V : World} {B : Option Addr} {l : List Pnt} (h : PtsAt W W.heap.size B l) (hb : Below W.heap.size W V) : PtsAt V V.heap.size B l := (h.later hb).wide hb.size
theorem same_zero (w : World) : Calls Try.prog 11 #[.agg #[.int .i64 0, .int .i64 0, .int .i64 0, .int .i64 0, .slice none 0 0], .agg #[.int .i64 0, .int .i64 0, .int .i64 0, .int .i64 0, .slice none 0 0]] w fun e w' => e = .returned (.bool true) ∧ Below w.heap.size w w' := by
  have := same_any 0 0 0 0 [] none 0 0 0 0 0 [] none 0 w (fun h => absurd rfl h) (fun h => absurd rfl h) (by simp)
  rw [eq4_self, decide_eq_true rfl] at this
  exact this
theorem same_self (a b c d : Int) (l : List Pnt) (A B : Option Addr) (k k2 : Nat) (w : World) (hA : PtsAt w w.heap.size A l) (hB : PtsAt w w.heap.size B l) (hn : l.length ≤ 70) :
    Calls Try.prog 11 #[.agg #[.int .i64 a, .int .i64 b, .int .i64 c, .int .i64 d, .slice A l.length k], .agg #[.int .i64 a, .int .i64 b, .int .i64 c, .int .i64 d, .slice B l.length k2]] w fun e w' => e = .returned (.bool true) ∧ Below w.heap.size w w' := by
  have := same_any a b c d l A k a b c d l B k2 w hA hB hn
  rw [eq4_self, decide_eq_true rfl] at this
  exact this

set_option maxHeartbeats 2000000 in
theorem moves_far (a b c d : Int) (A : Option Addr) (n k : Nat) (v : Pnt) (w : World) (hm : n ≤ maxLen) (h : ¬ n ≤ 70) :
    Calls Try.prog 4 #[.agg #[.int .i64 a, .int .i64 b, .int .i64 c, .int .i64 d, .slice A n k], .agg #[.int .i64 v.1, .int .i64 v.2]] w fun e w' => e = .returned (.bool true) ∧ Below w.heap.size w w' := by
  have D1 := Lib.hid (fun W => few_any a b c d A n k W hm)
  rw [decide_eq_false h] at D1
  clear hm h
  have L0 := (fun h => Kp.ad50 h w.heap.size rfl (.int .i64 a) (.int .i64 b) (.int .i64 c) (.int .i64 d) (.slice A n k) 26) ⟨Nat.le_refl _, Below.refl w.heap.size w⟩
  have L1 := (Kp.two (Kp.behind _ (.cells #[.int .i64 v.1, .int .i64 v.2] 28)) (Kp.two (Kp.behind _ (.cells #[.int .i64 v.1, .int .i64 v.2] 28)) (Kp.one (Kp.behind _ (.cells #[.int .i64 v.1, .int .i64 v.2] 28)) (fun h => Kp.add0 h (w.heap.size + 1) (by simp) (.int .i64 v.1) (.int .i64 v.2) 28)))) L0
  have L := Lib.hid L1
  clear L0 L1
  have z := L.out
  go_enter Try.func4, Try.ntmps4
  go_wp2_with fail
  refine (up_any _).mono ?_
  rintro e w1 ⟨rfl, hb1⟩
  have K1 := Lib.hid ((Kp.two hb1 (Kp.two hb1 (Kp.two hb1 (Kp.one hb1 (Kp.ends hb1))))) L.out)
  clear hb1 z L
  have z1 := K1.out
  go_wp2_with fail
  refine (D1.out _).mono ?_
  rintro e w2 ⟨rfl, hb2⟩
  have K2 := Lib.hid ((Kp.two hb2 (Kp.two hb2 (Kp.two hb2 (Kp.one hb2 (Kp.ends hb2))))) K1.out)
  clear hb2 z1 K1
  have z2 := K2.out
  go_wp2_with fail
  go_ret
  exact ⟨rfl, K2.out.2.2.2.2.2.2.2.2⟩

set_option maxHeartbeats 2000000 in
theorem moves_bad (a b c d : Int) (l : List Pnt) (A : Option Addr) (k : Nat) (v : Pnt) (w : World) (hA : PtsAt w w.heap.size A l) (hn : l.length ≤ 70) (hg : rgB a b c d l = false) :
    Calls Try.prog 4 #[.agg #[.int .i64 a, .int .i64 b, .int .i64 c, .int .i64 d, .slice A l.length k], .agg #[.int .i64 v.1, .int .i64 v.2]] w fun e w' => e = .returned (.bool true) ∧ Below w.heap.size w w' := by
  have C2 := Lib.hid (fun W (h : Below w.heap.size w W) => move_arg2 a b c d l A k v W ((hA.later h).wide h.size) hn hg)
  have C3 := Lib.hid (fun W (h : Below w.heap.size w W) => refMove_arg a b c d l A k v W ((hA.later h).wide h.size) hn hg)
  have D1 := Lib.hid (fun W => few_any a b c d A l.length k W (by unfold maxLen; omega))
  rw [decide_eq_true hn] at D1
  have HN := Lib.hid (show (moveL l v).length ≤ 70 by rw [moveL_len]; exact hn)
  obtain ⟨n, e⟩ : ∃ n, n = l.length := ⟨_, rfl⟩
  rw [← e] at C2 C3 D1 ⊢
  clear e hA hn hg
  have L0 := (fun h => Kp.ad50 h w.heap.size rfl (.int .i64 a) (.int .i64 b) (.int .i64 c) (.int .i64 d) (.slice A n k) 26) ⟨Nat.le_refl _, Below.refl w.heap.size w⟩
  have L1 := (Kp.two (Kp.behind _ (.cells #[.int .i64 v.1, .int .i64 v.2] 28)) (Kp.two (Kp.behind _ (.cells #[.int .i64 v.1, .int .i64 v.2] 28)) (Kp.one (Kp.behind _ (.cells #[.int .i64 v.1, .int .i64 v.2] 28)) (fun h => Kp.add0 h (w.heap.size + 1) (by simp) (.int .i64 v.1) (.int .i64 v.2) 28)))) L0
  have L := Lib.hid L1
  clear L0 L1
  have z := L.out
  go_enter Try.func4, Try.ntmps4
  go_wp2_with fail
  refine (up_any _).mono ?_
  rintro e w1 ⟨rfl, hb1⟩
  have K1 := Lib.hid ((Kp.two hb1 (Kp.two hb1 (Kp.two hb1 (Kp.one hb1 (Kp.ends hb1))))) L.out)
  clear hb1 z L
  have z1 := K1.out
  go_wp2_with fail
  refine (D1.out _).mono ?_
  rintro e w2 ⟨rfl, hb2⟩
  have K2 := Lib.hid ((Kp.two hb2 (Kp.two hb2 (Kp.two hb2 (Kp.one hb2 (Kp.ends hb2))))) K1.out)
  clear hb2 z1 K1
  have z2 := K2.out
  go_wp2_with fail
  refine (C2.out _ K2.out.2.2.2.2.2.2.2.2).mono ?_
  rintro e w3 ⟨rfl, hb3⟩
  have K3 := Lib.hid ((Kp.two hb3 (Kp.two hb3 (Kp.two hb3 (Kp.one hb3 (Kp.ends hb3))))) K2.out)
  clear hb3 z2 K2
  have z3 := K3.out
  have M3 := Lib.hid ((Kp.two (Kp.behind _ (.cells #[.int .i64 0, .int .i64 0, .int .i64 0, .int .i64 0, .slice none 0 0] 26)) (Kp.two (Kp.behind _ (.cells #[.int .i64 0, .int .i64 0, .int .i64 0, .int .i64 0, .slice none 0 0] 26)) (Kp.two (Kp.behind _ (.cells #[.int .i64 0, .int .i64 0, .int .i64 0, .int .i64 0, .slice none 0 0] 26)) (Kp.one (Kp.behind _ (.cells #[.int .i64 0, .int .i64 0, .int .i64 0, .int .i64 0, .slice none 0 0] 26)) (fun h => Kp.ad50 h w3.heap.size rfl (.int .i64 0) (.int .i64 0) (.int .i64 0) (.int .i64 0) (.slice none 0 0) 26))))) K3.out)
  have y3 := K3.out
  clear K3 z3
  have z3 := M3.out
  go_wp2_with fail
  refine (C3.out _ M3.out.2.2.2.2.2.2.2.2.2.2.2.2.2).mono ?_
  rintro e w4 ⟨rfl, hb4⟩
  have K4 := Lib.hid ((Kp.two hb4 (Kp.two hb4 (Kp.two hb4 (Kp.two hb4 (Kp.two hb4 (Kp.two hb4 (Kp.ends hb4))))))) M3.out)
  clear hb4 z3 y3 M3
  have z4 := K4.out
  have M4 := Lib.hid ((Kp.two (Kp.behind _ (.cells #[.int .i64 0, .int .i64 0, .int .i64 0, .int .i64 0, .slice none 0 0] 26)) (Kp.two (Kp.behind _ (.cells #[.int .i64 0, .int .i64 0, .int .i64 0, .int .i64 0, .slice none 0 0] 26)) (Kp.two (Kp.behind _ (.cells #[.int .i64 0, .int .i64 0, .int .i64 0, .int .i64 0, .slice none 0 0] 26)) (Kp.two (Kp.behind _ (.cells #[.int .i64 0, .int .i64 0, .int .i64 0, .int .i64 0, .slice none 0 0] 26)) (Kp.two (Kp.behind _ (.cells #[.int .i64 0, .int .i64 0, .int .i64 0, .int .i64 0, .slice none 0 0] 26)) (Kp.two (Kp.behind _ (.cells #[.int .i64 0, .int .i64 0, .int .i64 0, .int .i64 0, .slice none 0 0] 26)) (fun h => Kp.ad50 h w4.heap.size rfl (.int .i64 0) (.int .i64 0) (.int .i64 0) (.int .i64 0) (.slice none 0 0) 26))))))) K4.out)
  have y4 := K4.out
  clear K4 z4
  have z4 := M4.out
  go_wp2_with fail
  refine (Cn.code_any 1 (by decide) (by decide) _).mono ?_
  rintro e w5 ⟨rfl, rfl⟩
  go_wp2_with fail
  refine (same_zero _).mono ?_
  rintro e w5 ⟨rfl, hb5⟩
  have K5 := Lib.hid ((Kp.two hb5 (Kp.two hb5 (Kp.two hb5 (Kp.two hb5 (Kp.two hb5 (Kp.two hb5 (Kp.two hb5 (Kp.two hb5 (Kp.one hb5 (Kp.ends hb5)))))))))) M4.out)
  clear hb5 z4 y4 M4
  have z5 := K5.out
  go_wp2_with fail
  go_ret
  exact ⟨by simp, K5.out.2.2.2.2.2.2.2.2.2.2.2.2.2.2.2.2.2.2⟩

set_option maxHeartbeats 4000000 in
theorem moves_good (a b c d : Int) (l : List Pnt) (A : Option Addr) (k : Nat) (v : Pnt) (w : World) (hA : PtsAt w w.heap.size A l) (hn : l.length ≤ 70) (hg : rgB a b c d l = true) :
    Calls Try.prog 4 #[.agg #[.int .i64 a, .int .i64 b, .int .i64 c, .int .i64 d, .slice A l.length k], .agg #[.int .i64 v.1, .int .i64 v.2]] w fun e w' => e = .returned (.bool true) ∧ Below w.heap.size w w' := by
  have C2 := Lib.hid (fun W (h : Below w.heap.size w W) => move_any a b c d l A k v W ((hA.later h).wide h.size) hn hg)
  have C3 := Lib.hid (fun W (h : Below w.heap.size w W) => refMove_any a b c d l A k v W ((hA.later h).wide h.size) hn hg)
  have D1 := Lib.hid (fun W => few_any a b c d A l.length k W (by unfold maxLen; omega))
  rw [decide_eq_true hn] at D1
  have HN := Lib.hid (show (moveL l v).length ≤ 70 by rw [moveL_len]; exact hn)
  obtain ⟨n, e⟩ : ∃ n, n = l.length := ⟨_, rfl⟩
  rw [← e] at C2 C3 D1 ⊢
  clear e hA hn hg
  have L0 := (fun h => Kp.ad50 h w.heap.size rfl (.int .i64 a) (.int .i64 b) (.int .i64 c) (.int .i64 d) (.slice A n k) 26) ⟨Nat.le_refl _, Below.refl w.heap.size w⟩
  have L1 := (Kp.two (Kp.behind _ (.cells #[.int .i64 v.1, .int .i64 v.2] 28)) (Kp.two (Kp.behind _ (.cells #[.int .i64 v.1, .int .i64 v.2] 28)) (Kp.one (Kp.behind _ (.cells #[.int .i64 v.1, .int .i64 v.2] 28)) (fun h => Kp.add0 h (w.heap.size + 1) (by simp) (.int .i64 v.1) (.int .i64 v.2) 28)))) L0
  have L := Lib.hid L1
  clear L0 L1
  have z := L.out
  go_enter Try.func4, Try.ntmps4
  go_wp2_with fail
  refine (up_any _).mono ?_
  rintro e w1 ⟨rfl, hb1⟩
  have K1 := Lib.hid ((Kp.two hb1 (Kp.two hb1 (Kp.two hb1 (Kp.one hb1 (Kp.ends hb1))))) L.out)
  clear hb1 z L
  have z1 := K1.out
  go_wp2_with fail
  refine (D1.out _).mono ?_
  rintro e w2 ⟨rfl, hb2⟩
  have K2 := Lib.hid ((Kp.two hb2 (Kp.two hb2 (Kp.two hb2 (Kp.one hb2 (Kp.ends hb2))))) K1.out)
  clear hb2 z1 K1
  have z2 := K2.out
  go_wp2_with fail
  refine (C2.out _ K2.out.2.2.2.2.2.2.2.2).mono ?_
  rintro e w3 ⟨hb3, ⟨hm, B, q, rfl, hP, _⟩ | ⟨hm, rfl⟩⟩
  · have HP_0 := Lib.hid hP
    clear hP
    have K3 := Lib.hid ((Kp.two hb3 (Kp.two hb3 (Kp.two hb3 (Kp.one hb3 (Kp.ends hb3))))) K2.out)
    clear hb3 z2 K2
    have z3 := K3.out
    have M3 := Lib.hid ((Kp.two (Kp.behind _ (.cells #[.int .i64 (mvN l a v.1), .int .i64 (mvN l b v.2), .int .i64 (mvN l c v.1), .int .i64 (mvN l d v.2), .slice B (moveL l v).length q] 26)) (Kp.two (Kp.behind _ (.cells #[.int .i64 (mvN l a v.1), .int .i64 (mvN l b v.2), .int .i64 (mvN l c v.1), .int .i64 (mvN l d v.2), .slice B (moveL l v).length q] 26)) (Kp.two (Kp.behind _ (.cells #[.int .i64 (mvN l a v.1), .int .i64 (mvN l b v.2), .int .i64 (mvN l c v.1), .int .i64 (mvN l d v.2), .slice B (moveL l v).length q] 26)) (Kp.one (Kp.behind _ (.cells #[.int .i64 (mvN l a v.1), .int .i64 (mvN l b v.2), .int .i64 (mvN l c v.1), .int .i64 (mvN l d v.2), .slice B (moveL l v).length q] 26)) (fun h => Kp.ad50 h w3.heap.size rfl (.int .i64 (mvN l a v.1)) (.int .i64 (mvN l b v.2)) (.int .i64 (mvN l c v.1)) (.int .i64 (mvN l d v.2)) (.slice B (moveL l v).length q) 26))))) K3.out)
    have y3 := K3.out
    have HP_1 := Lib.hid (pts_go HP_0.out (Kp.behind w3 (.cells #[.int .i64 (mvN l a v.1), .int .i64 (mvN l b v.2), .int .i64 (mvN l c v.1), .int .i64 (mvN l d v.2), .slice B (moveL l v).length q] 26)))
    clear HP_0 K3 z3
    have z3 := M3.out
    go_wp2_with fail
    refine (C3.out _ M3.out.2.2.2.2.2.2.2.2.2.2.2.2.2).mono ?_
    rintro e w4 ⟨hb4, ⟨_, B2, q2, rfl, hP2, _⟩ | ⟨hm2, rfl⟩⟩
    · have HQ_0 := Lib.hid hP2
      clear hP2
      have HP_4 := Lib.hid (pts_go HP_1.out hb4)
      have K4 := Lib.hid ((Kp.two hb4 (Kp.two hb4 (Kp.two hb4 (Kp.two hb4 (Kp.two hb4 (Kp.two hb4 (Kp.ends hb4))))))) M3.out)
      clear hb4 z3 y3 M3 HP_1
      have z4 := K4.out
      have M4 := Lib.hid ((Kp.two (Kp.behind _ (.cells #[.int .i64 (mvN l a v.1), .int .i64 (mvN l b v.2), .int .i64 (mvN l c v.1), .int .i64 (mvN l d v.2), .slice B2 (moveL l v).length q2] 26)) (Kp.two (Kp.behind _ (.cells #[.int .i64 (mvN l a v.1), .int .i64 (mvN l b v.2), .int .i64 (mvN l c v.1), .int .i64 (mvN l d v.2), .slice B2 (moveL l v).length q2] 26)) (Kp.two (Kp.behind _ (.cells #[.int .i64 (mvN l a v.1), .int .i64 (mvN l b v.2), .int .i64 (mvN l c v.1), .int .i64 (mvN l d v.2), .slice B2 (moveL l v).length q2] 26)) (Kp.two (Kp.behind _ (.cells #[.int .i64 (mvN l a v.1), .int .i64 (mvN l b v.2), .int .i64 (mvN l c v.1), .int .i64 (mvN l d v.2), .slice B2 (moveL l v).length q2] 26)) (Kp.two (Kp.behind _ (.cells #[.int .i64 (mvN l a v.1), .int .i64 (mvN l b v.2), .int .i64 (mvN l c v.1), .int .i64 (mvN l d v.2), .slice B2 (moveL l v).length q2] 26)) (Kp.two (Kp.behind _ (.cells #[.int .i64 (mvN l a v.1), .int .i64 (mvN l b v.2), .int .i64 (mvN l c v.1), .int .i64 (mvN l d v.2), .slice B2 (moveL l v).length q2] 26)) (fun h => Kp.ad50 h w4.heap.size rfl (.int .i64 (mvN l a v.1)) (.int .i64 (mvN l b v.2)) (.int .i64 (mvN l c v.1)) (.int .i64 (mvN l d v.2)) (.slice B2 (moveL l v).length q2) 26))))))) K4.out)
      have y4 := K4.out
      have HQ_1 := Lib.hid (pts_go HQ_0.out (Kp.behind w4 (.cells #[.int .i64 (mvN l a v.1), .int .i64 (mvN l b v.2), .int .i64 (mvN l c v.1), .int .i64 (mvN l d v.2), .slice B2 (moveL l v).length q2] 26)))
      have HR_1 := Lib.hid (pts_go HP_4.out (Kp.behind w4 (.cells #[.int .i64 (mvN l a v.1), .int .i64 (mvN l b v.2), .int .i64 (mvN l c v.1), .int .i64 (mvN l d v.2), .slice B2 (moveL l v).length q2] 26)))
      clear HQ_0 HP_4 K4 z4
      have z4 := M4.out
      go_wp2_with fail
      refine (Cn.code_nil _).mono ?_
      rintro e w5 ⟨rfl, rfl⟩
      go_wp2_with fail
      refine (same_self _ _ _ _ (moveL l v) B B2 q q2 _ HR_1.out HQ_1.out HN.out).mono ?_
      rintro e w6 ⟨rfl, hb6⟩
      have K6 := Lib.hid ((Kp.two hb6 (Kp.two hb6 (Kp.two hb6 (Kp.two hb6 (Kp.two hb6 (Kp.two hb6 (Kp.two hb6 (Kp.two hb6 (Kp.one hb6 (Kp.ends hb6)))))))))) M4.out)
      clear hb6 z4 y4 M4 HR_1 HQ_1
      have z6 := K6.out
      go_wp2_with fail
      go_ret
      exact ⟨by simp, K6.out.2.2.2.2.2.2.2.2.2.2.2.2.2.2.2.2.2.2⟩
    · exact absurd (hm.symm.trans hm2) (by decide)
  · have K3 := Lib.hid ((Kp.two hb3 (Kp.two hb3 (Kp.two hb3 (Kp.one hb3 (Kp.ends hb3))))) K2.out)
    clear hb3 z2 K2
    have z3 := K3.out
    have M3 := Lib.hid ((Kp.two (Kp.behind _ (.cells #[.int .i64 0, .int .i64 0, .int .i64 0, .int .i64 0, .slice none 0 0] 26)) (Kp.two (Kp.behind _ (.cells #[.int .i64 0, .int .i64 0, .int .i64 0, .int .i64 0, .slice none 0 0] 26)) (Kp.two (Kp.behind _ (.cells #[.int .i64 0, .int .i64 0, .int .i64 0, .int .i64 0, .slice none 0 0] 26)) (Kp.one (Kp.behind _ (.cells #[.int .i64 0, .int .i64 0, .int .i64 0, .int .i64 0, .slice none 0 0] 26)) (fun h => Kp.ad50 h w3.heap.size rfl (.int .i64 0) (.int .i64 0) (.int .i64 0) (.int .i64 0) (.slice none 0 0) 26))))) K3.out)
    have y3 := K3.out
    clear K3 z3
    have z3 := M3.out
    go_wp2_with fail
    refine (C3.out _ M3.out.2.2.2.2.2.2.2.2.2.2.2.2.2).mono ?_
    rintro e w4 ⟨hb4, ⟨hm2, B2, q2, rfl, hP2, _⟩ | ⟨_, rfl⟩⟩
    · exact absurd (hm2.symm.trans hm) (by decide)
    · have K4 := Lib.hid ((Kp.two hb4 (Kp.two hb4 (Kp.two hb4 (Kp.two hb4 (Kp.two hb4 (Kp.two hb4 (Kp.ends hb4))))))) M3.out)
      clear hb4 z3 y3 M3
      have z4 := K4.out
      have M4 := Lib.hid ((Kp.two (Kp.behind _ (.cells #[.int .i64 0, .int .i64 0, .int .i64 0, .int .i64 0, .slice none 0 0] 26)) (Kp.two (Kp.behind _ (.cells #[.int .i64 0, .int .i64 0, .int .i64 0, .int .i64 0, .slice none 0 0] 26)) (Kp.two (Kp.behind _ (.cells #[.int .i64 0, .int .i64 0, .int .i64 0, .int .i64 0, .slice none 0 0] 26)) (Kp.two (Kp.behind _ (.cells #[.int .i64 0, .int .i64 0, .int .i64 0, .int .i64 0, .slice none 0 0] 26)) (Kp.two (Kp.behind _ (.cells #[.int .i64 0, .int .i64 0, .int .i64 0, .int .i64 0, .slice none 0 0] 26)) (Kp.two (Kp.behind _ (.cells #[.int .i64 0, .int .i64 0, .int .i64 0, .int .i64 0, .slice none 0 0] 26)) (fun h => Kp.ad50 h w4.heap.size rfl (.int .i64 0) (.int .i64 0) (.int .i64 0) (.int .i64 0) (.slice none 0 0) 26))))))) K4.out)
      have y4 := K4.out
      clear K4 z4
      have z4 := M4.out
      go_wp2_with fail
      refine (Cn.code_any 11 (by decide) (by decide) _).mono ?_
      rintro e w5 ⟨rfl, rfl⟩
      go_wp2_with fail
      refine (same_zero _).mono ?_
      rintro e w6 ⟨rfl, hb6⟩
      have K6 := Lib.hid ((Kp.two hb6 (Kp.two hb6 (Kp.two hb6 (Kp.two hb6 (Kp.two hb6 (Kp.two hb6 (Kp.two hb6 (Kp.two hb6 (Kp.one hb6 (Kp.ends hb6)))))))))) M4.out)
      clear hb6 z4 y4 M4
      have z6 := K6.out
      go_wp2_with fail
      go_ret
      exact ⟨by simp, K6.out.2.2.2.2.2.2.2.2.2.2.2.2.2.2.2.2.2.2⟩

theorem moves_all (a b c d : Int) (l : List Pnt) (A : Option Addr) (k : Nat) (v : Pnt) (w : World) (hA : PtsAt w w.heap.size A l) (hm : l.length ≤ maxLen) :
    Calls Try.prog 4 #[.agg #[.int .i64 a, .int .i64 b, .int .i64 c, .int .i64 d, .slice A l.length k], .agg #[.int .i64 v.1, .int .i64 v.2]] w fun e w' => e = .returned (.bool true) ∧ Below w.heap.size w w' := by
  by_cases h : l.length ≤ 70
  · cases hg : rgB a b c d l
    · exact moves_bad a b c d l A k v w hA h hg
    · exact moves_good a b c d l A k v w hA h hg
  · exact moves_far a b c d A l.length k v w hm h
end Go.Proofs.Ytiggjaodfmelpaa.Rg
