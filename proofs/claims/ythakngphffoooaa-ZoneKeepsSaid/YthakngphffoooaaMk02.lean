/-
  The statement ZoneKeeps holds: moved by what is safe, a region's box is held by the cover's box, and its cover is within that; the move of nothing is safe; what isn't safe leaves it (P17.2). For every input; no condition.
-/
import Derived.Test.YthakngphffoooaaMt13
import Derived.Test.YthakngphffoooaaMk01
import Derived.Test.YthakngphffoooaaRows
import Derived.Test.YthakngphffoooaaMt14
import Derived.WalkKit
import Derived.ProofKit
import Derived.OpenShut
import Derived.ChangeOld
import Derived.Below
import Derived.ChangeSame
import Derived.JoinedOf
import Derived.JoinedAt
import Derived.Lib.SmallJoins
/-
  The walk of the statement ZoneKeeps: whatever shift, region and move it is given, it returns true, and memory that was there is left as it was.
-/
namespace Go.Proofs.Ythakngphffoooaa.Zn
open Go.RowKit Go.Proofs.Ythakngphffoooaa.Pt Go.Proofs.Ythakngphffoooaa.Rc Go.Proofs.Ythakngphffoooaa.Pts Go.Proofs.Ythakngphffoooaa.Pl Go.Proofs.Ythakngphffoooaa.Rg Go.Proofs.Ythakngphffoooaa.Mo
set_option linter.unusedVariables false
set_option linter.unusedSimpArgs false

theorem pts_go {W V : World} {B : Option Addr} {l : List Pnt} (h : PtsAt W W.heap.size B l) (hb : Below W.heap.size W V) : PtsAt V V.heap.size B l := (h.later hb).wide hb.size

set_option maxHeartbeats 4000000 in
set_option maxRecDepth 100000 in
theorem keeps_far (s : Int) (a b c d : Int) (A : Option Addr) (n k : Nat) (v : Pnt) (w : World) (hm : n ≤ maxLen) (h : ¬ n ≤ 70) :
    Calls Try.prog 4 #[.int .i64 s, .agg #[.int .i64 a, .int .i64 b, .int .i64 c, .int .i64 d, .slice A n k], .agg #[.int .i64 v.1, .int .i64 v.2]] w fun e w' => e = .returned (.bool true) ∧ Below w.heap.size w w' := by
  have D1 := Lib.hid (fun W => few_any a b c d A n k W hm)
  rw [decide_eq_false h] at D1
  clear hm h
  have L0 := (fun h => Kp.ad50 h w.heap.size rfl (.int .i64 a) (.int .i64 b) (.int .i64 c) (.int .i64 d) (.slice A n k) 26) ⟨Nat.le_refl _, Below.refl w.heap.size w⟩
  have L1 := (Kp.two (Kp.behind _ (.cells #[.int .i64 v.1, .int .i64 v.2] 28)) (Kp.two (Kp.behind _ (.cells #[.int .i64 v.1, .int .i64 v.2] 28)) (Kp.one (Kp.behind _ (.cells #[.int .i64 v.1, .int .i64 v.2] 28)) (fun h => Kp.add0 h (w.heap.size + 1) (by simp) (.int .i64 v.1) (.int .i64 v.2) 28)))) L0
  have L := Lib.hid L1
  clear L0 L1
  have z := L.out
  go_enter Try.func4, Try.ntmps4
  go_wp2_with fail
  refine (up_any _).mono ?_
  rintro e w1 ⟨rfl, hb1⟩
  have K1 := Lib.hid ((Kp.two hb1 (Kp.two hb1 (Kp.two hb1 (Kp.one hb1 (Kp.ends hb1))))) L.out)
  clear hb1 z L
  have z1 := K1.out
  go_wp2_with fail
  refine (D1.out _).mono ?_
  rintro e w2 ⟨rfl, hb2⟩
  have K2 := Lib.hid ((Kp.two hb2 (Kp.two hb2 (Kp.two hb2 (Kp.one hb2 (Kp.ends hb2))))) K1.out)
  clear hb2 z1 K1
  have z2 := K2.out
  go_wp2_with fail
  go_ret
  exact ⟨rfl, K2.out.2.2.2.2.2.2.2.2⟩

set_option maxHeartbeats 4000000 in
set_option maxRecDepth 100000 in
theorem keeps_bad (s : Int) (a b c d : Int) (l : List Pnt) (A : Option Addr) (k : Nat) (v : Pnt) (w : World) (hA : PtsAt w w.heap.size A l) (hn : l.length ≤ 70) (hg : rgB a b c d l = false) :
    Calls Try.prog 4 #[.int .i64 s, .agg #[.int .i64 a, .int .i64 b, .int .i64 c, .int .i64 d, .slice A l.length k], .agg #[.int .i64 v.1, .int .i64 v.2]] w fun e w' => e = .returned (.bool true) ∧ Below w.heap.size w w' := by
  have D1 := Lib.hid (fun W => few_any a b c d A l.length k W (by unfold maxLen; omega))
  rw [decide_eq_true hn] at D1
  have C1 := Lib.hid (fun W (h : Below w.heap.size w W) => cover_bad s a b c d l A k W ((hA.later h).wide h.size) hn hg)
  obtain ⟨n, e⟩ : ∃ n, n = l.length := ⟨_, rfl⟩
  rw [← e] at C1 D1 ⊢
  clear e
  clear hA hn hg
  have r1 := neq_arg
  have L0 := (fun h => Kp.ad50 h w.heap.size rfl (.int .i64 a) (.int .i64 b) (.int .i64 c) (.int .i64 d) (.slice A n k) 26) ⟨Nat.le_refl _, Below.refl w.heap.size w⟩
  have L1 := (Kp.two (Kp.behind _ (.cells #[.int .i64 v.1, .int .i64 v.2] 28)) (Kp.two (Kp.behind _ (.cells #[.int .i64 v.1, .int .i64 v.2] 28)) (Kp.one (Kp.behind _ (.cells #[.int .i64 v.1, .int .i64 v.2] 28)) (fun h => Kp.add0 h (w.heap.size + 1) (by simp) (.int .i64 v.1) (.int .i64 v.2) 28)))) L0
  have L := Lib.hid L1
  clear L0 L1
  have z := L.out
  go_enter Try.func4, Try.ntmps4
  go_wp2_with fail
  refine (up_any _).mono ?_
  rintro e w1 ⟨rfl, hb1⟩
  have K1 := Lib.hid ((Kp.two hb1 (Kp.two hb1 (Kp.two hb1 (Kp.one hb1 (Kp.ends hb1))))) L.out)
  clear hb1 z L
  have z1 := K1.out
  go_wp2_with fail
  refine (D1.out _).mono ?_
  rintro e w2 ⟨rfl, hb2⟩
  have K2 := Lib.hid ((Kp.two hb2 (Kp.two hb2 (Kp.two hb2 (Kp.one hb2 (Kp.ends hb2))))) K1.out)
  clear hb2 z1 K1
  have z2 := K2.out
  go_wp2_with fail
  refine (C1.out _ K2.out.2.2.2.2.2.2.2.2).mono ?_
  rintro e w3 ⟨rfl, hb3⟩
  have K3 := Lib.hid ((Kp.two hb3 (Kp.two hb3 (Kp.two hb3 (Kp.one hb3 (Kp.ends hb3))))) K2.out)
  clear hb3 z2 K2
  have M3 := Lib.hid ((Kp.two (Kp.behind _ (.cells #[.int .i64 0, .int .i64 0, .int .i64 0, .int .i64 0] 23)) (Kp.two (Kp.behind _ (.cells #[.int .i64 0, .int .i64 0, .int .i64 0, .int .i64 0] 23)) (Kp.two (Kp.behind _ (.cells #[.int .i64 0, .int .i64 0, .int .i64 0, .int .i64 0] 23)) (Kp.one (Kp.behind _ (.cells #[.int .i64 0, .int .i64 0, .int .i64 0, .int .i64 0] 23)) (fun h => Kp.adq0 h w3.heap.size rfl (.int .i64 0) (.int .i64 0) (.int .i64 0) (.int .i64 0) 23))))) K3.out)
  have y3 := K3.out
  clear K3
  have z3 := M3.out
  go_wp2_with fail
  go_ret
  exact ⟨rfl, M3.out.2.2.2.2.2.2.2.2.2.2.2.2⟩

set_option maxHeartbeats 4000000 in
set_option maxRecDepth 100000 in
theorem keeps_shift (s : Int) (a b c d : Int) (l : List Pnt) (A : Option Addr) (k : Nat) (v : Pnt) (w : World) (hA : PtsAt w w.heap.size A l) (hn : l.length ≤ 70) (hg : rgB a b c d l = true) (hs : shB s = false) :
    Calls Try.prog 4 #[.int .i64 s, .agg #[.int .i64 a, .int .i64 b, .int .i64 c, .int .i64 d, .slice A l.length k], .agg #[.int .i64 v.1, .int .i64 v.2]] w fun e w' => e = .returned (.bool true) ∧ Below w.heap.size w w' := by
  have D1 := Lib.hid (fun W => few_any a b c d A l.length k W (by unfold maxLen; omega))
  rw [decide_eq_true hn] at D1
  have C1 := Lib.hid (fun W (h : Below w.heap.size w W) => cover_no s a b c d l A k W ((hA.later h).wide h.size) hn hg hs)
  obtain ⟨n, e⟩ : ∃ n, n = l.length := ⟨_, rfl⟩
  rw [← e] at C1 D1 ⊢
  clear e
  clear hA hn hg
  have r1 := neq_arg
  have L0 := (fun h => Kp.ad50 h w.heap.size rfl (.int .i64 a) (.int .i64 b) (.int .i64 c) (.int .i64 d) (.slice A n k) 26) ⟨Nat.le_refl _, Below.refl w.heap.size w⟩
  have L1 := (Kp.two (Kp.behind _ (.cells #[.int .i64 v.1, .int .i64 v.2] 28)) (Kp.two (Kp.behind _ (.cells #[.int .i64 v.1, .int .i64 v.2] 28)) (Kp.one (Kp.behind _ (.cells #[.int .i64 v.1, .int .i64 v.2] 28)) (fun h => Kp.add0 h (w.heap.size + 1) (by simp) (.int .i64 v.1) (.int .i64 v.2) 28)))) L0
  have L := Lib.hid L1
  clear L0 L1
  have z := L.out
  go_enter Try.func4, Try.ntmps4
  go_wp2_with fail
  refine (up_any _).mono ?_
  rintro e w1 ⟨rfl, hb1⟩
  have K1 := Lib.hid ((Kp.two hb1 (Kp.two hb1 (Kp.two hb1 (Kp.one hb1 (Kp.ends hb1))))) L.out)
  clear hb1 z L
  have z1 := K1.out
  go_wp2_with fail
  refine (D1.out _).mono ?_
  rintro e w2 ⟨rfl, hb2⟩
  have K2 := Lib.hid ((Kp.two hb2 (Kp.two hb2 (Kp.two hb2 (Kp.one hb2 (Kp.ends hb2))))) K1.out)
  clear hb2 z1 K1
  have z2 := K2.out
  go_wp2_with fail
  refine (C1.out _ K2.out.2.2.2.2.2.2.2.2).mono ?_
  rintro e w3 ⟨rfl, hb3⟩
  have K3 := Lib.hid ((Kp.two hb3 (Kp.two hb3 (Kp.two hb3 (Kp.one hb3 (Kp.ends hb3))))) K2.out)
  clear hb3 z2 K2
  have M3 := Lib.hid ((Kp.two (Kp.behind _ (.cells #[.int .i64 0, .int .i64 0, .int .i64 0, .int .i64 0] 23)) (Kp.two (Kp.behind _ (.cells #[.int .i64 0, .int .i64 0, .int .i64 0, .int .i64 0] 23)) (Kp.two (Kp.behind _ (.cells #[.int .i64 0, .int .i64 0, .int .i64 0, .int .i64 0] 23)) (Kp.one (Kp.behind _ (.cells #[.int .i64 0, .int .i64 0, .int .i64 0, .int .i64 0] 23)) (fun h => Kp.adq0 h w3.heap.size rfl (.int .i64 0) (.int .i64 0) (.int .i64 0) (.int .i64 0) 23))))) K3.out)
  have y3 := K3.out
  clear K3
  have z3 := M3.out
  go_wp2_with fail
  go_ret
  exact ⟨rfl, M3.out.2.2.2.2.2.2.2.2.2.2.2.2⟩

set_option maxHeartbeats 4000000 in
set_option maxRecDepth 100000 in
theorem keeps_good (s : Nat) (a b c d : Int) (l : List Pnt) (A : Option Addr) (k : Nat) (v : Pnt) (w : World) (hA : PtsAt w w.heap.size A l) (hn : l.length ≤ 70) (hg : rgB a b c d l = true) (h1 : 24 ≤ s) (h2 : s ≤ 31) :
    Calls Try.prog 4 #[.int .i64 s, .agg #[.int .i64 a, .int .i64 b, .int .i64 c, .int .i64 d, .slice A l.length k], .agg #[.int .i64 v.1, .int .i64 v.2]] w fun e w' => e = .returned (.bool true) ∧ Below w.heap.size w w' := by
  have D1 := Lib.hid (fun W => few_any a b c d A l.length k W (by unfold maxLen; omega))
  rw [decide_eq_true hn] at D1
  have C1 := Lib.hid (fun W (h : Below w.heap.size w W) => cover_yes s a b c d l A k W ((hA.later h).wide h.size) hn hg h1 h2)
  have C2 : Hid (∀ W, Below w.heap.size w W → Calls Try.prog 9 #[.agg #[.int .i64 a, .int .i64 b, .int .i64 c, .int .i64 d, .slice A l.length k], .agg #[.int .i64 (cvX s (rgX a b c d l)).x1, .int .i64 (cvX s (rgX a b c d l)).y1, .int .i64 (cvX s (rgX a b c d l)).x2, .int .i64 (cvX s (rgX a b c d l)).y2], .agg #[.int .i64 0, .int .i64 0]] W fun e w' => e = .returned (.bool true) ∧ Below W.heap.size W w') := Lib.hid fun W h => by
    have := safe_any a b c d l A k (cvX s (rgX a b c d l)).x1 (cvX s (rgX a b c d l)).y1 (cvX s (rgX a b c d l)).x2 (cvX s (rgX a b c d l)).y2 (0, 0) W ((hA.later h).wide h.size) hn
    rw [cv_rest s hg] at this
    exact this
  have C3 := Lib.hid (fun W (h : Below w.heap.size w W) => move_any a b c d l A k v W ((hA.later h).wide h.size) hn hg)
  have HN := Lib.hid (show (moveL l v).length ≤ 70 by rw [moveL_len]; exact hn)
  have HX := Lib.hid (fun hm => rgX_moved (v := v) hg hm)
  have HGM := Lib.hid (fun hm => rgB_moved (v := v) hg hm)
  have HR := Lib.hid (fun hm => show rmayB (shR (rgX a b c d l) v).x1 (shR (rgX a b c d l) v).y1 (shR (rgX a b c d l) v).x2 (shR (rgX a b c d l) v).y2 = true by have := rgX_may (HGM.out hm); rw [HX.out hm] at this; exact this)
  have HW := Lib.hid (fun hm => cv_within (r := (rgX a b c d l)) (s := (shR (rgX a b c d l) v)) s (rgX_may hg) (HR.out hm))
  have HS := Lib.hid (fun hm => cv_safe (v := v) s hg (HR.out hm))
  have C8 := Lib.hid (fun W (h : Below w.heap.size w W) => safe_any a b c d l A k (cvX s (rgX a b c d l)).x1 (cvX s (rgX a b c d l)).y1 (cvX s (rgX a b c d l)).x2 (cvX s (rgX a b c d l)).y2 v W ((hA.later h).wide h.size) hn)
  have H12 := Lib.hid (And.intro h1 h2)
  obtain ⟨r, er⟩ : ∃ r, r = (rgX a b c d l) := ⟨_, rfl⟩
  rw [← er] at C1 C2 HX HR HW HS C8
  obtain ⟨y, ey⟩ : ∃ y, y = cvX s r := ⟨_, rfl⟩
  rw [← ey] at C1 C2 HW HS C8
  obtain ⟨sf, ef⟩ : ∃ x, x = sfB a b c d l y.x1 y.y1 y.x2 y.y2 v := ⟨_, rfl⟩
  rw [← ef] at C8 HS
  obtain ⟨n, e⟩ : ∃ n, n = l.length := ⟨_, rfl⟩
  rw [← e] at C1 C2 C3 D1 C8 ⊢
  clear e
  clear hA hn er ey ef
  have r1 := neq_nils
  have r2 := neq_range
  have L0 := (fun h => Kp.ad50 h w.heap.size rfl (.int .i64 a) (.int .i64 b) (.int .i64 c) (.int .i64 d) (.slice A n k) 26) ⟨Nat.le_refl _, Below.refl w.heap.size w⟩
  have L1 := (Kp.two (Kp.behind _ (.cells #[.int .i64 v.1, .int .i64 v.2] 28)) (Kp.two (Kp.behind _ (.cells #[.int .i64 v.1, .int .i64 v.2] 28)) (Kp.one (Kp.behind _ (.cells #[.int .i64 v.1, .int .i64 v.2] 28)) (fun h => Kp.add0 h (w.heap.size + 1) (by simp) (.int .i64 v.1) (.int .i64 v.2) 28)))) L0
  have L := Lib.hid L1
  clear L0 L1
  have z := L.out
  go_enter Try.func4, Try.ntmps4
  go_wp2_with fail
  refine (up_any _).mono ?_
  rintro e w1 ⟨rfl, hb1⟩
  have K1 := Lib.hid ((Kp.two hb1 (Kp.two hb1 (Kp.two hb1 (Kp.one hb1 (Kp.ends hb1))))) L.out)
  clear hb1 z L
  have z1 := K1.out
  go_wp2_with fail
  refine (D1.out _).mono ?_
  rintro e w2 ⟨rfl, hb2⟩
  have K2 := Lib.hid ((Kp.two hb2 (Kp.two hb2 (Kp.two hb2 (Kp.one hb2 (Kp.ends hb2))))) K1.out)
  clear hb2 z1 K1
  have z2 := K2.out
  go_wp2_with fail
  refine (C1.out _ K2.out.2.2.2.2.2.2.2.2).mono ?_
  rintro e w3 ⟨rfl, hb3⟩
  have K3 := Lib.hid ((Kp.two hb3 (Kp.two hb3 (Kp.two hb3 (Kp.one hb3 (Kp.ends hb3))))) K2.out)
  clear hb3 z2 K2
  have z3 := K3.out
  have M3 := Lib.hid ((Kp.two (Kp.behind _ (.cells #[.int .i64 y.x1, .int .i64 y.y1, .int .i64 y.x2, .int .i64 y.y2] 23)) (Kp.two (Kp.behind _ (.cells #[.int .i64 y.x1, .int .i64 y.y1, .int .i64 y.x2, .int .i64 y.y2] 23)) (Kp.two (Kp.behind _ (.cells #[.int .i64 y.x1, .int .i64 y.y1, .int .i64 y.x2, .int .i64 y.y2] 23)) (Kp.one (Kp.behind _ (.cells #[.int .i64 y.x1, .int .i64 y.y1, .int .i64 y.x2, .int .i64 y.y2] 23)) (fun h => Kp.adq0 h w3.heap.size rfl (.int .i64 y.x1) (.int .i64 y.y1) (.int .i64 y.x2) (.int .i64 y.y2) 23))))) K3.out)
  have y3 := K3.out
  clear K3 z3
  have z3 := M3.out
  go_wp2_with fail
  refine (C2.out _ M3.out.2.2.2.2.2.2.2.2.2.2.2.2).mono ?_
  rintro e w4 ⟨rfl, hb4⟩
  have K4 := Lib.hid ((Kp.two hb4 (Kp.two hb4 (Kp.two hb4 (Kp.two hb4 (Kp.two hb4 (Kp.one hb4 (Kp.ends hb4))))))) M3.out)
  clear hb4 z3 y3 M3
  have z4 := K4.out
  go_wp2_with fail
  refine (C3.out _ K4.out.2.2.2.2.2.2.2.2.2.2.2.2).mono ?_
  rintro e w5 ⟨hb5, ⟨hm, B, q, rfl, hP, _⟩ | ⟨hm, rfl⟩⟩
  · have C4 : Hid (∀ W, PtsAt W W.heap.size B (moveL l v) → Calls Try.prog 16 #[.agg #[.int .i64 (mvN l a v.1), .int .i64 (mvN l b v.2), .int .i64 (mvN l c v.1), .int .i64 (mvN l d v.2), .slice B (moveL l v).length q]] W fun e w' => e = .returned (.tuple #[.agg #[.int .i64 (shR r v).x1, .int .i64 (shR r v).y1, .int .i64 (shR r v).x2, .int .i64 (shR r v).y2], .nilIface]) ∧ Below W.heap.size W w') := Lib.hid fun W hP => by
      have := box_any (mvN l a v.1) (mvN l b v.2) (mvN l c v.1) (mvN l d v.2) (moveL l v) B q W hP HN.out (HGM.out hm)
      rw [HX.out hm] at this
      exact this
    have C5 : Hid (∀ W, PtsAt W W.heap.size B (moveL l v) → Calls Try.prog 11 #[.int .i64 s, .agg #[.int .i64 (mvN l a v.1), .int .i64 (mvN l b v.2), .int .i64 (mvN l c v.1), .int .i64 (mvN l d v.2), .slice B (moveL l v).length q]] W fun e w' => e = .returned (.tuple #[.agg #[.int .i64 (cvX s (shR r v)).x1, .int .i64 (cvX s (shR r v)).y1, .int .i64 (cvX s (shR r v)).x2, .int .i64 (cvX s (shR r v)).y2], .nilIface]) ∧ Below W.heap.size W w') := Lib.hid fun W hP => by
      have := cover_yes s (mvN l a v.1) (mvN l b v.2) (mvN l c v.1) (mvN l d v.2) (moveL l v) B q W hP HN.out (HGM.out hm) H12.out.1 H12.out.2
      rw [HX.out hm] at this
      exact this
    have hw := HW.out hm
    have hs := HS.out hm
    have C6 := Lib.hid (fun W => refHolds_any y.x1 y.y1 y.x2 y.y2 (shR r v).x1 (shR r v).y1 (shR r v).x2 (shR r v).y2 W)
    have C7 := Lib.hid (fun W => refHolds_any y.x1 y.y1 y.x2 y.y2 (cvX s (shR r v)).x1 (cvX s (shR r v)).y1 (cvX s (shR r v)).x2 (cvX s (shR r v)).y2 W)
    rw [← hw, ← hs] at C7
    rw [← hs] at C6
    clear hw hs HW HS HR HX HGM hm
    have r3 := eql_bool sf
    obtain ⟨t, et⟩ : ∃ t, t = cvX s (shR r v) := ⟨_, rfl⟩
    rw [← et] at C5 C7
    clear et
    obtain ⟨u, eu⟩ : ∃ u, u = (shR r v) := ⟨_, rfl⟩
    rw [← eu] at C4 C6
    clear eu
    have HP_0 := Lib.hid hP
    clear hP
    have K5 := Lib.hid ((Kp.two hb5 (Kp.two hb5 (Kp.two hb5 (Kp.two hb5 (Kp.two hb5 (Kp.one hb5 (Kp.ends hb5))))))) K4.out)
    clear hb5 z4 K4
    have z5 := K5.out
    have M5 := Lib.hid ((Kp.two (Kp.behind _ (.cells #[.int .i64 (mvN l a v.1), .int .i64 (mvN l b v.2), .int .i64 (mvN l c v.1), .int .i64 (mvN l d v.2), .slice B (moveL l v).length q] 26)) (Kp.two (Kp.behind _ (.cells #[.int .i64 (mvN l a v.1), .int .i64 (mvN l b v.2), .int .i64 (mvN l c v.1), .int .i64 (mvN l d v.2), .slice B (moveL l v).length q] 26)) (Kp.two (Kp.behind _ (.cells #[.int .i64 (mvN l a v.1), .int .i64 (mvN l b v.2), .int .i64 (mvN l c v.1), .int .i64 (mvN l d v.2), .slice B (moveL l v).length q] 26)) (Kp.two (Kp.behind _ (.cells #[.int .i64 (mvN l a v.1), .int .i64 (mvN l b v.2), .int .i64 (mvN l c v.1), .int .i64 (mvN l d v.2), .slice B (moveL l v).length q] 26)) (Kp.two (Kp.behind _ (.cells #[.int .i64 (mvN l a v.1), .int .i64 (mvN l b v.2), .int .i64 (mvN l c v.1), .int .i64 (mvN l d v.2), .slice B (moveL l v).length q] 26)) (Kp.one (Kp.behind _ (.cells #[.int .i64 (mvN l a v.1), .int .i64 (mvN l b v.2), .int .i64 (mvN l c v.1), .int .i64 (mvN l d v.2), .slice B (moveL l v).length q] 26)) (fun h => Kp.ad50 h w5.heap.size rfl (.int .i64 (mvN l a v.1)) (.int .i64 (mvN l b v.2)) (.int .i64 (mvN l c v.1)) (.int .i64 (mvN l d v.2)) (.slice B (moveL l v).length q) 26))))))) K5.out)
    have y5 := K5.out
    have HP_1 := Lib.hid (pts_go HP_0.out (Kp.behind w5 (.cells #[.int .i64 (mvN l a v.1), .int .i64 (mvN l b v.2), .int .i64 (mvN l c v.1), .int .i64 (mvN l d v.2), .slice B (moveL l v).length q] 26)))
    clear HP_0 K5 z5
    have z5 := M5.out
    go_wp2_with fail
    refine (C4.out _ HP_1.out).mono ?_
    rintro e w6 ⟨rfl, hb6⟩
    have HP_6 := Lib.hid (pts_go HP_1.out hb6)
    have K6 := Lib.hid ((Kp.two hb6 (Kp.two hb6 (Kp.two hb6 (Kp.two hb6 (Kp.two hb6 (Kp.two hb6 (Kp.two hb6 (Kp.two hb6 (Kp.ends hb6))))))))) M5.out)
    clear hb6 z5 y5 M5 HP_1
    have z6 := K6.out
    have M6 := Lib.hid ((Kp.two (Kp.behind _ (.cells #[.int .i64 u.x1, .int .i64 u.y1, .int .i64 u.x2, .int .i64 u.y2] 23)) (Kp.two (Kp.behind _ (.cells #[.int .i64 u.x1, .int .i64 u.y1, .int .i64 u.x2, .int .i64 u.y2] 23)) (Kp.two (Kp.behind _ (.cells #[.int .i64 u.x1, .int .i64 u.y1, .int .i64 u.x2, .int .i64 u.y2] 23)) (Kp.two (Kp.behind _ (.cells #[.int .i64 u.x1, .int .i64 u.y1, .int .i64 u.x2, .int .i64 u.y2] 23)) (Kp.two (Kp.behind _ (.cells #[.int .i64 u.x1, .int .i64 u.y1, .int .i64 u.x2, .int .i64 u.y2] 23)) (Kp.two (Kp.behind _ (.cells #[.int .i64 u.x1, .int .i64 u.y1, .int .i64 u.x2, .int .i64 u.y2] 23)) (Kp.two (Kp.behind _ (.cells #[.int .i64 u.x1, .int .i64 u.y1, .int .i64 u.x2, .int .i64 u.y2] 23)) (Kp.two (Kp.behind _ (.cells #[.int .i64 u.x1, .int .i64 u.y1, .int .i64 u.x2, .int .i64 u.y2] 23)) (fun h => Kp.adq0 h w6.heap.size rfl (.int .i64 u.x1) (.int .i64 u.y1) (.int .i64 u.x2) (.int .i64 u.y2) 23))))))))) K6.out)
    have y6 := K6.out
    have HP_6x := Lib.hid (pts_go HP_6.out (Kp.behind w6 (.cells #[.int .i64 u.x1, .int .i64 u.y1, .int .i64 u.x2, .int .i64 u.y2] 23)))
    clear HP_6
    clear K6 z6
    have z6 := M6.out
    go_wp2_with fail
    refine (C5.out _ HP_6x.out).mono ?_
    rintro e w7 ⟨rfl, hb7⟩
    have HP_7 := Lib.hid (pts_go HP_6x.out hb7)
    have K7 := Lib.hid ((Kp.two hb7 (Kp.two hb7 (Kp.two hb7 (Kp.two hb7 (Kp.two hb7 (Kp.two hb7 (Kp.two hb7 (Kp.two hb7 (Kp.two hb7 (Kp.two hb7 (Kp.ends hb7))))))))))) M6.out)
    clear hb7 z6 y6 M6 HP_6x
    have z7 := K7.out
    have M7 := Lib.hid ((Kp.two (Kp.behind _ (.cells #[.int .i64 t.x1, .int .i64 t.y1, .int .i64 t.x2, .int .i64 t.y2] 23)) (Kp.two (Kp.behind _ (.cells #[.int .i64 t.x1, .int .i64 t.y1, .int .i64 t.x2, .int .i64 t.y2] 23)) (Kp.two (Kp.behind _ (.cells #[.int .i64 t.x1, .int .i64 t.y1, .int .i64 t.x2, .int .i64 t.y2] 23)) (Kp.two (Kp.behind _ (.cells #[.int .i64 t.x1, .int .i64 t.y1, .int .i64 t.x2, .int .i64 t.y2] 23)) (Kp.two (Kp.behind _ (.cells #[.int .i64 t.x1, .int .i64 t.y1, .int .i64 t.x2, .int .i64 t.y2] 23)) (Kp.two (Kp.behind _ (.cells #[.int .i64 t.x1, .int .i64 t.y1, .int .i64 t.x2, .int .i64 t.y2] 23)) (Kp.two (Kp.behind _ (.cells #[.int .i64 t.x1, .int .i64 t.y1, .int .i64 t.x2, .int .i64 t.y2] 23)) (Kp.two (Kp.behind _ (.cells #[.int .i64 t.x1, .int .i64 t.y1, .int .i64 t.x2, .int .i64 t.y2] 23)) (Kp.two (Kp.behind _ (.cells #[.int .i64 t.x1, .int .i64 t.y1, .int .i64 t.x2, .int .i64 t.y2] 23)) (Kp.two (Kp.behind _ (.cells #[.int .i64 t.x1, .int .i64 t.y1, .int .i64 t.x2, .int .i64 t.y2] 23)) (fun h => Kp.adq0 h w7.heap.size rfl (.int .i64 t.x1) (.int .i64 t.y1) (.int .i64 t.x2) (.int .i64 t.y2) 23))))))))))) K7.out)
    have y7 := K7.out
    have HP_7x := Lib.hid (pts_go HP_7.out (Kp.behind w7 (.cells #[.int .i64 t.x1, .int .i64 t.y1, .int .i64 t.x2, .int .i64 t.y2] 23)))
    clear HP_7
    clear K7 z7
    have z7 := M7.out
    go_wp2_with fail
    refine (C6.out _).mono ?_
    rintro e w8 ⟨rfl, hb8⟩
    have HP_8 := Lib.hid (pts_go HP_7x.out hb8)
    have K8 := Lib.hid ((Kp.two hb8 (Kp.two hb8 (Kp.two hb8 (Kp.two hb8 (Kp.two hb8 (Kp.two hb8 (Kp.two hb8 (Kp.two hb8 (Kp.two hb8 (Kp.two hb8 (Kp.two hb8 (Kp.two hb8 (Kp.ends hb8))))))))))))) M7.out)
    clear hb8 z7 y7 M7 HP_7x
    have z8 := K8.out
    go_wp2_with fail
    refine (C7.out _).mono ?_
    rintro e w9 ⟨rfl, hb9⟩
    have HP_9 := Lib.hid (pts_go HP_8.out hb9)
    have K9 := Lib.hid ((Kp.two hb9 (Kp.two hb9 (Kp.two hb9 (Kp.two hb9 (Kp.two hb9 (Kp.two hb9 (Kp.two hb9 (Kp.two hb9 (Kp.two hb9 (Kp.two hb9 (Kp.two hb9 (Kp.two hb9 (Kp.ends hb9))))))))))))) K8.out)
    clear hb9 z8 K8 HP_8
    have z9 := K9.out
    go_wp2_with fail
    refine (C8.out _ K9.out.2.2.2.2.2.2.2.2.2.2.2.2.2.2.2.2.2.2.2.2.2.2.2.2.2).mono ?_
    rintro e w10 ⟨rfl, hb10⟩
    have HP_10 := Lib.hid (pts_go HP_9.out hb10)
    have K10 := Lib.hid ((Kp.two hb10 (Kp.two hb10 (Kp.two hb10 (Kp.two hb10 (Kp.two hb10 (Kp.two hb10 (Kp.two hb10 (Kp.two hb10 (Kp.two hb10 (Kp.two hb10 (Kp.two hb10 (Kp.two hb10 (Kp.ends hb10))))))))))))) K9.out)
    clear hb10 z9 K9 HP_9
    have z10 := K10.out
    go_wp2_with fail
    go_ret
    exact ⟨by simp, K10.out.2.2.2.2.2.2.2.2.2.2.2.2.2.2.2.2.2.2.2.2.2.2.2.2.2⟩
  · have K5 := Lib.hid ((Kp.two hb5 (Kp.two hb5 (Kp.two hb5 (Kp.two hb5 (Kp.two hb5 (Kp.one hb5 (Kp.ends hb5))))))) K4.out)
    clear hb5 z4 K4
    have z5 := K5.out
    have M5 := Lib.hid ((Kp.two (Kp.behind _ (.cells #[.int .i64 0, .int .i64 0, .int .i64 0, .int .i64 0, .slice none 0 0] 26)) (Kp.two (Kp.behind _ (.cells #[.int .i64 0, .int .i64 0, .int .i64 0, .int .i64 0, .slice none 0 0] 26)) (Kp.two (Kp.behind _ (.cells #[.int .i64 0, .int .i64 0, .int .i64 0, .int .i64 0, .slice none 0 0] 26)) (Kp.two (Kp.behind _ (.cells #[.int .i64 0, .int .i64 0, .int .i64 0, .int .i64 0, .slice none 0 0] 26)) (Kp.two (Kp.behind _ (.cells #[.int .i64 0, .int .i64 0, .int .i64 0, .int .i64 0, .slice none 0 0] 26)) (Kp.one (Kp.behind _ (.cells #[.int .i64 0, .int .i64 0, .int .i64 0, .int .i64 0, .slice none 0 0] 26)) (fun h => Kp.ad50 h w5.heap.size rfl (.int .i64 0) (.int .i64 0) (.int .i64 0) (.int .i64 0) (.slice none 0 0) 26))))))) K5.out)
    have y5 := K5.out
    clear K5 z5
    have z5 := M5.out
    go_wp2_with fail
    go_ret
    exact ⟨rfl, M5.out.2.2.2.2.2.2.2.2.2.2.2.2.2.2.2.2.2⟩

theorem keeps_all (s : Int) (a b c d : Int) (l : List Pnt) (A : Option Addr) (k : Nat) (v : Pnt) (w : World) (hA : PtsAt w w.heap.size A l) (hm : l.length ≤ maxLen) :
    Calls Try.prog 4 #[.int .i64 s, .agg #[.int .i64 a, .int .i64 b, .int .i64 c, .int .i64 d, .slice A l.length k], .agg #[.int .i64 v.1, .int .i64 v.2]] w fun e w' => e = .returned (.bool true) ∧ Below w.heap.size w w' := by
  by_cases h : l.length ≤ 70
  · cases hg : rgB a b c d l
    · exact keeps_bad s a b c d l A k v w hA h hg
    · cases hs : shB s
      · exact keeps_shift s a b c d l A k v w hA h hg hs
      · obtain ⟨j, rfl, h1, h2⟩ := shB_nat hs
        exact keeps_good j a b c d l A k v w hA h hg h1 h2
  · exact keeps_far s a b c d A l.length k v w hm h
end Go.Proofs.Ythakngphffoooaa.Zn
namespace Go.Proofs.Ythakngphffoooaa.zoneKeeps
open Go.ChangeShapes Go.WideShapes Go.ChangeAt Go.RowKit Go.Joins
set_option linter.unusedVariables false

theorem own : ownKnob Try.prog.godebug = none := by kernel_rfl
theorem laidOut : laidOutB Try.prog = true := by kernel_rfl

set_option maxHeartbeats 1000000 in
set_option maxRecDepth 100000 in
theorem lifted (os : Os) (started : os.Started) (H : Type) (enc : TypeId × Value → H) :
    ReturnsInHanded {} Try.checked os 4 .any (Rows.zoneKeepsSpec.pre6 enc Try.prog Try.f4 Rows.zoneKeepsRow.domain false) (Rows.zoneKeepsSpec.post enc Try.prog Try.f4 false true false false) := by
  refine returnsInHanded_of_change (C := Try.checked) own started (by kernel_rfl) Try.func4
    (ChangeSpec.witness6 (enc := enc) (C := Try.checked) false ⟨#[], #[.int .i64 0, .agg #[.int .i64 0, .int .i64 0, .int .i64 0, .int .i64 0, .slice none 0 0], .agg #[.int .i64 0, .int .i64 0]], []⟩ 8 (by kernel_rfl) (by kernel_rfl) (by kernel_rfl) (by kernel_rfl)) ?_
  intro W base args ds gs before hval0 hW hcnd _
  have hval : ∀ (j : Nat) t v, Try.f4.params[j]? = some t → args[j]? = some v → Value.okWide Try.prog W .any base t v := hval0
  have hW' := hW
  obtain ⟨p, q, hA0, hV, rfl, hfz, hnd⟩ := hW
  have hA : DataW.TrodAll enc Try.prog W 0 (fun _ => true) true Try.f4.params.toList args.toList ds p := hA0
  rw [Try.params4] at hA hval
  obtain ⟨v0, vs0, d0, ds0, p0, q0, hargs, rfl, rfl, h0, r0⟩ := trodAll_cons hA
  obtain ⟨v1, vs1, d1, ds1, p1, q1, rfl, rfl, rfl, h1, r1⟩ := trodAll_cons r0
  obtain ⟨v2, vs2, d2, ds2, p2, q2, rfl, rfl, rfl, h2, r2⟩ := trodAll_cons r1
  obtain ⟨rfl, rfl, rfl⟩ := trodAll_nil r2
  obtain rfl : args = #[v0, v1, v2] := by cases args; simp_all
  obtain ⟨rfl, rfl⟩ := trodVars_none hV
  have k0 := h0
  have lt0 : ∀ x ∈ p0, x.block < W.heap.size := by obtain ⟨m, hm⟩ := k0; exact DataW.trod_lt m _ _ _ hm
  obtain ⟨x0_0, rfl⟩ := okWide_int Try.underlying3 (hval 0 3 v0 rfl rfl)
  have k1 := h1
  have lt1 : ∀ x ∈ p1, x.block < W.heap.size := by obtain ⟨m, hm⟩ := k1; exact DataW.trod_lt m _ _ _ hm
  obtain ⟨a1, b1, c1, d1, l1, A1, k1', rfl, hm1, hP1⟩ := Rg.open_region (tG := 26) (tR := 23) (tL := 24) (tP := 28) (i := 2) ⟨Try.underlying26, by kernel_rfl, ⟨rfl, rfl⟩, ⟨rfl, rfl⟩, by kernel_rfl, Try.underlying23, by kernel_rfl, ⟨rfl, rfl, rfl, rfl⟩, ⟨rfl, rfl, rfl, rfl⟩, by kernel_rfl, Try.underlying2, Try.underlying24, Try.underlying28, by kernel_rfl, ⟨rfl, rfl⟩, ⟨rfl, rfl⟩⟩ (hval 1 26 v1 rfl rfl) h1
  have k2 := h2
  have lt2 : ∀ x ∈ p2, x.block < W.heap.size := by obtain ⟨m, hm⟩ := k2; exact DataW.trod_lt m _ _ _ hm
  obtain ⟨x2_0, x2_1, rfl⟩ : ∃ x2_0 x2_1 : Int, v2 = .agg #[.int .i64 x2_0, .int .i64 x2_1] := by
    obtain ⟨c0, c1, z0, z1, m, hv, _, _, hz0, hz1⟩ := open_agg2 Try.underlying28 (by kernel_rfl) (by kernel_rfl) (hval 2 28 v2 rfl rfl) h2
    obtain ⟨n0, e0, _, _⟩ := DataW.trod_int Try.underlying2 hz0
    obtain ⟨n1, e1, _, _⟩ := DataW.trod_int Try.underlying2 hz1
    simp at e0 e1
    subst e0 e1
    exact ⟨n0, n1, hv⟩
  clear hA0 hval0
  refine (Zn.keeps_all x0_0 a1 b1 c1 d1 l1 A1 k1' (x2_0, x2_1) W hP1 hm1).mono fun e W' ⟨he, bel⟩ => ?_
  subst he
  exact ⟨_, rfl, _, _, _, [], _, [], hW', trodAll_mk1 (shut_bool Try.underlying4 _), (trodAll_cons_mk (Below.trod laidOut (by kernel_rfl) (of_decide_eq_true (by kernel_rfl)) k0 bel lt0) (trodAll_cons_mk (Below.trod laidOut (by kernel_rfl) (of_decide_eq_true (by kernel_rfl)) k1 bel lt1) (trodAll_cons_mk (Below.trod laidOut (by kernel_rfl) (of_decide_eq_true (by kernel_rfl)) k2 bel lt2) trodAll_mk0))), rfl, bel.frame _, fun h => by cases h⟩

theorem over : Rows.zoneKeepsRow.holds Try.pinned (OpenSpec.ofChange Rows.zoneKeepsSpec) :=
  OpenClaim.holds_of_wide 4 Try.f4 rfl rfl rfl rfl rfl rfl rfl ⟨rfl, rfl, rfl, rfl, rfl⟩ rfl rfl rfl rfl rfl (by kernel_rfl) Try.func4 (by kernel_rfl)
    (of_decide_eq_true (by kernel_rfl)) (by unfold Func.isWrapper; first | (rw [if_pos (by decide +kernel)]; kernel_rfl) | (rw [if_neg (by decide +kernel)]; exact ⟨rfl, rfl⟩))
    (fun os started H enc _ => lifted os started H enc)

theorem proved : Rows.ZoneKeepsSaid := over
#print axioms proved
end Go.Proofs.Ythakngphffoooaa.zoneKeeps
