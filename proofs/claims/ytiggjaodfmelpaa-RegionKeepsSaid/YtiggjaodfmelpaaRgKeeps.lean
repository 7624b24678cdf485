/-
  The walk of the statement RegionKeeps: whatever region and points it is given, it returns true, and memory that was there is left as it was.
-/
import Derived.Test.YtiggjaodfmelpaaRgUp
import Derived.Test.YtiggjaodfmelpaaRgMoves
import Derived.Test.YtiggjaodfmelpaaRgMoved
namespace Go.Proofs.Ytiggjaodfmelpaa.Rg
open Go.RowKit Go.Proofs.Ytiggjaodfmelpaa.Pt Go.Proofs.Ytiggjaodfmelpaa.Rc Go.Proofs.Ytiggjaodfmelpaa.Pts Go.Proofs.Ytiggjaodfmelpaa.Pl
set_option linter.unusedVariables false
set_option linter.unusedSimpArgs false

set_option maxHeartbeats 4000000 in
set_option maxRecDepth 100000 in
theorem keeps_far (a b c d : Int) (A : Option Addr) (n k : Nat) (p v : Pnt) (w : World) (hm : n ≤ maxLen) (h : ¬ n ≤ 70) :
    Calls Try.prog 5 #[.agg #[.int .i64 a, .int .i64 b, .int .i64 c, .int .i64 d, .slice A n k], .agg #[.int .i64 p.1, .int .i64 p.2], .agg #[.int .i64 v.1, .int .i64 v.2]] w fun e w' => e = .returned (.bool true) ∧ Below w.heap.size w w' := by
  have D1 := Lib.hid (fun W => few_any a b c d A n k W hm)
  rw [decide_eq_false h] at D1
  clear hm h
  have L0 := (fun h => Kp.ad50 h w.heap.size rfl (.int .i64 a) (.int .i64 b) (.int .i64 c) (.int .i64 d) (.slice A n k) 26) ⟨Nat.le_refl _, Below.refl w.heap.size w⟩
  have L1 := (Kp.two (Kp.behind _ (.cells #[.int .i64 p.1, .int .i64 p.2] 28)) (Kp.two (Kp.behind _ (.cells #[.int .i64 p.1, .int .i64 p.2] 28)) (Kp.one (Kp.behind _ (.cells #[.int .i64 p.1, .int .i64 p.2] 28)) (fun h => Kp.add0 h (w.heap.size + 1) (by simp) (.int .i64 p.1) (.int .i64 p.2) 28)))) L0
  have L2 := (Kp.two (Kp.behind _ (.cells #[.int .i64 v.1, .int .i64 v.2] 28)) (Kp.two (Kp.behind _ (.cells #[.int .i64 v.1, .int .i64 v.2] 28)) (Kp.two (Kp.behind _ (.cells #[.int .i64 v.1, .int .i64 v.2] 28)) (Kp.one (Kp.behind _ (.cells #[.int .i64 v.1, .int .i64 v.2] 28)) (fun h => Kp.add0 h (w.heap.size + 1 + 1) (by simp) (.int .i64 v.1) (.int .i64 v.2) 28))))) L1
  have L := Lib.hid L2
  clear L0 L1 L2
  have z := L.out
  go_enter Try.func5, Try.ntmps5
  go_wp2_with fail
  refine (up_any _).mono ?_
  rintro e w1 ⟨rfl, hb1⟩
  have K1 := Lib.hid ((Kp.two hb1 (Kp.two hb1 (Kp.two hb1 (Kp.two hb1 (Kp.one hb1 (Kp.ends hb1)))))) L.out)
  clear hb1 z L
  have z1 := K1.out
  go_wp2_with fail
  refine (D1.out _).mono ?_
  rintro e w2 ⟨rfl, hb2⟩
  have K2 := Lib.hid ((Kp.two hb2 (Kp.two hb2 (Kp.two hb2 (Kp.two hb2 (Kp.one hb2 (Kp.ends hb2)))))) K1.out)
  clear hb2 z1 K1
  have z2 := K2.out
  go_wp2_with fail
  go_ret
  exact ⟨rfl, K2.out.2.2.2.2.2.2.2.2.2.2⟩

set_option maxHeartbeats 4000000 in
set_option maxRecDepth 100000 in
theorem keeps_bad (a b c d : Int) (l : List Pnt) (A : Option Addr) (k : Nat) (p v : Pnt) (w : World) (hA : PtsAt w w.heap.size A l) (hn : l.length ≤ 70) (hg : rgB a b c d l = false) :
    Calls Try.prog 5 #[.agg #[.int .i64 a, .int .i64 b, .int .i64 c, .int .i64 d, .slice A l.length k], .agg #[.int .i64 p.1, .int .i64 p.2], .agg #[.int .i64 v.1, .int .i64 v.2]] w fun e w' => e = .returned (.bool true) ∧ Below w.heap.size w w' := by
  have D1 := Lib.hid (fun W => few_any a b c d A l.length k W (by unfold maxLen; omega))
  rw [decide_eq_true hn] at D1
  have C1 := Lib.hid (fun W (h : Below w.heap.size w W) => may_any a b c d l A k W ((hA.later h).wide h.size) hn)
  rw [hg] at C1
  obtain ⟨n, e⟩ : ∃ n, n = l.length := ⟨_, rfl⟩
  rw [← e] at C1 D1 ⊢
  clear e
  clear hA hn hg
  have L0 := (fun h => Kp.ad50 h w.heap.size rfl (.int .i64 a) (.int .i64 b) (.int .i64 c) (.int .i64 d) (.slice A n k) 26) ⟨Nat.le_refl _, Below.refl w.heap.size w⟩
  have L1 := (Kp.two (Kp.behind _ (.cells #[.int .i64 p.1, .int .i64 p.2] 28)) (Kp.two (Kp.behind _ (.cells #[.int .i64 p.1, .int .i64 p.2] 28)) (Kp.one (Kp.behind _ (.cells #[.int .i64 p.1, .int .i64 p.2] 28)) (fun h => Kp.add0 h (w.heap.size + 1) (by simp) (.int .i64 p.1) (.int .i64 p.2) 28)))) L0
  have L2 := (Kp.two (Kp.behind _ (.cells #[.int .i64 v.1, .int .i64 v.2] 28)) (Kp.two (Kp.behind _ (.cells #[.int .i64 v.1, .int .i64 v.2] 28)) (Kp.two (Kp.behind _ (.cells #[.int .i64 v.1, .int .i64 v.2] 28)) (Kp.one (Kp.behind _ (.cells #[.int .i64 v.1, .int .i64 v.2] 28)) (fun h => Kp.add0 h (w.heap.size + 1 + 1) (by simp) (.int .i64 v.1) (.int .i64 v.2) 28))))) L1
  have L := Lib.hid L2
  clear L0 L1 L2
  have z := L.out
  go_enter Try.func5, Try.ntmps5
  go_wp2_with fail
  refine (up_any _).mono ?_
  rintro e w1 ⟨rfl, hb1⟩
  have K1 := Lib.hid ((Kp.two hb1 (Kp.two hb1 (Kp.two hb1 (Kp.two hb1 (Kp.one hb1 (Kp.ends hb1)))))) L.out)
  clear hb1 z L
  have z1 := K1.out
  go_wp2_with fail
  refine (D1.out _).mono ?_
  rintro e w2 ⟨rfl, hb2⟩
  have K2 := Lib.hid ((Kp.two hb2 (Kp.two hb2 (Kp.two hb2 (Kp.two hb2 (Kp.one hb2 (Kp.ends hb2)))))) K1.out)
  clear hb2 z1 K1
  have z2 := K2.out
  go_wp2_with fail
  refine (C1.out _ K2.out.2.2.2.2.2.2.2.2.2.2).mono ?_
  rintro e w3 ⟨rfl, hb3⟩
  have K3 := Lib.hid ((Kp.two hb3 (Kp.two hb3 (Kp.two hb3 (Kp.two hb3 (Kp.one hb3 (Kp.ends hb3)))))) K2.out)
  clear hb3 z2 K2
  have z3 := K3.out
  go_wp2_with fail
  go_ret
  exact ⟨rfl, K3.out.2.2.2.2.2.2.2.2.2.2⟩

theorem rgX_ok {a b c d : Int} {l : List Pnt} (h : rgB a b c d l = true) : okR (rgX a b c d l) := by
  unfold rgX
  split
  · rename_i h0
    rw [rgB_no h0] at h
    have := rmayB_bd h
    refine ⟨?_, ?_, ?_, ?_⟩ <;> (rw [inR_iff]; dsimp only; omega)
  · rename_i h0
    have hm := (simpleB_all (rgB_simple (by omega) h).2).1
    cases l with
    | nil => simp at h0
    | cons p t =>
      rw [ofR_yes hm]
      have hp : pmay p = true := List.all_eq_true.1 hm p (by simp)
      exact okR_acc hp (by rw [List.take_of_length_le (Nat.le_refl _)]; exact hm)
theorem wrap_two {x y : Int} (hx : inR x = true) (hy : inR y = true) : IntKind.i64.wrap (x + y) = x + y := by
  rw [inR_iff] at hx hy
  exact IntWalk.i64_in _ (by omega)

set_option maxHeartbeats 4000000 in
set_option maxRecDepth 100000 in
theorem keeps_good (a b c d : Int) (l : List Pnt) (A : Option Addr) (k : Nat) (p v : Pnt) (w : World) (hA : PtsAt w w.heap.size A l) (hn : l.length ≤ 70) (hg : rgB a b c d l = true) :
    Calls Try.prog 5 #[.agg #[.int .i64 a, .int .i64 b, .int .i64 c, .int .i64 d, .slice A l.length k], .agg #[.int .i64 p.1, .int .i64 p.2], .agg #[.int .i64 v.1, .int .i64 v.2]] w fun e w' => e = .returned (.bool true) ∧ Below w.heap.size w w' := by
  have D1 := Lib.hid (fun W => few_any a b c d A l.length k W (by unfold maxLen; omega))
  rw [decide_eq_true hn] at D1
  have C1 := Lib.hid (fun W (h : Below w.heap.size w W) => may_any a b c d l A k W ((hA.later h).wide h.size) hn)
  have C2 := Lib.hid (fun W (h : Below w.heap.size w W) => box_any a b c d l A k W ((hA.later h).wide h.size) hn hg)
  have C3 := Lib.hid (fun W (h : Below w.heap.size w W) => rin_any a b c d l A k p W ((hA.later h).wide h.size) hn)
  have C4 := Lib.hid (fun W (h : Below w.heap.size w W) => move_any a b c d l A k v W ((hA.later h).wide h.size) hn hg)
  have RO := Lib.hid (rgX_ok hg)
  have HX := Lib.hid (fun hm => rgX_moved (v := v) hg hm)
  have HI := Lib.hid (fun hm hp hq => rgI_moved (v := v) (p := p) hg hm hp hq)
  have HGM := Lib.hid (fun hm => rgB_moved (v := v) hg hm)
  have HB := Lib.hid (fun h => rgI_box (a := a) (b := b) (c := c) (d := d) (l := l) (p := p) h)
  have HN := Lib.hid (show (moveL l v).length ≤ 70 by rw [moveL_len]; exact hn)
  rw [hg] at C1
  obtain ⟨r, er⟩ : ∃ r, r = rgX a b c d l := ⟨_, rfl⟩
  rw [← er] at C2 RO HX HB
  obtain ⟨ri, ei⟩ : ∃ x, x = rgI a b c d l p := ⟨_, rfl⟩
  rw [← ei] at C3 HI HB
  obtain ⟨wi, ew⟩ : ∃ x, x = inB r.x1 r.y1 r.x2 r.y2 p.1 p.2 := ⟨_, rfl⟩
  rw [← ew] at HB
  have C5 := Lib.hid (fun W => refIn_any r.x1 r.y1 r.x2 r.y2 p.1 p.2 W)
  rw [← ew] at C5
  have GD := Lib.hid (show ri = false ∨ (ri = true ∧ wi = true) by cases ri; exact Or.inl rfl; exact Or.inr ⟨rfl, HB.out rfl⟩)
  obtain ⟨mp, emp⟩ : ∃ x, x = mayB p.1 p.2 := ⟨_, rfl⟩
  obtain ⟨sx, hsx⟩ : ∃ s, s = IntKind.i64.wrap (p.1 + v.1) := ⟨_, rfl⟩
  obtain ⟨sy, hsy⟩ : ∃ s, s = IntKind.i64.wrap (p.2 + v.2) := ⟨_, rfl⟩
  obtain ⟨mq, emq⟩ : ∃ x, x = mayB sx sy := ⟨_, rfl⟩
  have C6 := Lib.hid (fun W => refMay_any p.1 p.2 W)
  rw [← emp] at C6
  have C7 := Lib.hid (fun W => refMay_any sx sy W)
  rw [← emq] at C7
  have EMP := Lib.hid emp
  have EMQ := Lib.hid emq
  have SX := Lib.hid hsx
  have SY := Lib.hid hsy
  have C3g := Lib.hid (fun W (h : Below w.heap.size w W) => rin_any a b c d l A k p W ((hA.later h).wide h.size) hn)
  rw [← ei] at C3g
  obtain ⟨n, e⟩ : ∃ n, n = l.length := ⟨_, rfl⟩
  rw [← e] at C1 C2 C3 C4 D1 C3g ⊢
  clear e
  clear hA hn hg er ei ew emp emq hsx hsy
  have n1 := neq_range
  have n2 := neq_nil
  have n3 := Cn.nil_nil
  rcases GD.out with rfl | ⟨rfl, rfl⟩
  · have L0 := (fun h => Kp.ad50 h w.heap.size rfl (.int .i64 a) (.int .i64 b) (.int .i64 c) (.int .i64 d) (.slice A n k) 26) ⟨Nat.le_refl _, Below.refl w.heap.size w⟩
    have L1 := (Kp.two (Kp.behind _ (.cells #[.int .i64 p.1, .int .i64 p.2] 28)) (Kp.two (Kp.behind _ (.cells #[.int .i64 p.1, .int .i64 p.2] 28)) (Kp.one (Kp.behind _ (.cells #[.int .i64 p.1, .int .i64 p.2] 28)) (fun h => Kp.add0 h (w.heap.size + 1) (by simp) (.int .i64 p.1) (.int .i64 p.2) 28)))) L0
    have L2 := (Kp.two (Kp.behind _ (.cells #[.int .i64 v.1, .int .i64 v.2] 28)) (Kp.two (Kp.behind _ (.cells #[.int .i64 v.1, .int .i64 v.2] 28)) (Kp.two (Kp.behind _ (.cells #[.int .i64 v.1, .int .i64 v.2] 28)) (Kp.one (Kp.behind _ (.cells #[.int .i64 v.1, .int .i64 v.2] 28)) (fun h => Kp.add0 h (w.heap.size + 1 + 1) (by simp) (.int .i64 v.1) (.int .i64 v.2) 28))))) L1
    have L := Lib.hid L2
    clear L0 L1 L2
    have z := L.out
    go_enter Try.func5, Try.ntmps5
    go_wp2_with fail
    refine (up_any _).mono ?_
    rintro e w1 ⟨rfl, hb1⟩
    have K1 := Lib.hid ((Kp.two hb1 (Kp.two hb1 (Kp.two hb1 (Kp.two hb1 (Kp.one hb1 (Kp.ends hb1)))))) L.out)
    clear hb1 z L
    have z1 := K1.out
    go_wp2_with fail
    refine (D1.out _).mono ?_
    rintro e w2 ⟨rfl, hb2⟩
    have K2 := Lib.hid ((Kp.two hb2 (Kp.two hb2 (Kp.two hb2 (Kp.two hb2 (Kp.one hb2 (Kp.ends hb2)))))) K1.out)
    clear hb2 z1 K1
    have z2 := K2.out
    go_wp2_with fail
    refine (C1.out _ K2.out.2.2.2.2.2.2.2.2.2.2).mono ?_
    rintro e w3 ⟨rfl, hb3⟩
    have K3 := Lib.hid ((Kp.two hb3 (Kp.two hb3 (Kp.two hb3 (Kp.two hb3 (Kp.one hb3 (Kp.ends hb3)))))) K2.out)
    clear hb3 z2 K2
    have z3 := K3.out
    go_wp2_with fail
    refine (C2.out _ K3.out.2.2.2.2.2.2.2.2.2.2).mono ?_
    rintro e w4 ⟨rfl, hb4⟩
    have K4 := Lib.hid ((Kp.two hb4 (Kp.two hb4 (Kp.two hb4 (Kp.two hb4 (Kp.one hb4 (Kp.ends hb4)))))) K3.out)
    clear hb4 z3 K3
    have z4 := K4.out
    have M4 := Lib.hid ((Kp.two (Kp.behind _ (.cells #[.int .i64 r.x1, .int .i64 r.y1, .int .i64 r.x2, .int .i64 r.y2] 23)) (Kp.two (Kp.behind _ (.cells #[.int .i64 r.x1, .int .i64 r.y1, .int .i64 r.x2, .int .i64 r.y2] 23)) (Kp.two (Kp.behind _ (.cells #[.int .i64 r.x1, .int .i64 r.y1, .int .i64 r.x2, .int .i64 r.y2] 23)) (Kp.two (Kp.behind _ (.cells #[.int .i64 r.x1, .int .i64 r.y1, .int .i64 r.x2, .int .i64 r.y2] 23)) (Kp.one (Kp.behind _ (.cells #[.int .i64 r.x1, .int .i64 r.y1, .int .i64 r.x2, .int .i64 r.y2] 23)) (fun h => Kp.adq0 h w4.heap.size rfl (.int .i64 r.x1) (.int .i64 r.y1) (.int .i64 r.x2) (.int .i64 r.y2) 23)))))) K4.out)
    have y4 := K4.out
    clear K4 z4
    have z4 := M4.out
    go_wp2_with fail
    refine (C5.out _).mono ?_
    rintro e w5 ⟨rfl, hb5⟩
    have K5 := Lib.hid ((Kp.two hb5 (Kp.two hb5 (Kp.two hb5 (Kp.two hb5 (Kp.two hb5 (Kp.two hb5 (Kp.one hb5 (Kp.ends hb5)))))))) M4.out)
    clear hb5 z4 y4 M4
    have z5 := K5.out
    go_wp2_with fail
    refine (C3.out _ K5.out.2.2.2.2.2.2.2.2.2.2.2.2.2.2).mono ?_
    rintro e w6 ⟨rfl, hb6⟩
    have K6 := Lib.hid ((Kp.two hb6 (Kp.two hb6 (Kp.two hb6 (Kp.two hb6 (Kp.two hb6 (Kp.two hb6 (Kp.one hb6 (Kp.ends hb6)))))))) K5.out)
    clear hb6 z5 K5
    have z6 := K6.out
    go_wp2_with fail
    refine (C4.out _ K6.out.2.2.2.2.2.2.2.2.2.2.2.2.2.2).mono ?_
    rintro e w7 ⟨hb7, ⟨hm, B, q, rfl, hP, _⟩ | ⟨hm, rfl⟩⟩
    · cases mp
      · have HP_0 := Lib.hid hP
        clear hP
        have K7 := Lib.hid ((Kp.two hb7 (Kp.two hb7 (Kp.two hb7 (Kp.two hb7 (Kp.two hb7 (Kp.two hb7 (Kp.one hb7 (Kp.ends hb7)))))))) K6.out)
        clear hb7 z6 K6
        have z7 := K7.out
        have M7 := Lib.hid ((Kp.two (Kp.behind _ (.cells #[.int .i64 (mvN l a v.1), .int .i64 (mvN l b v.2), .int .i64 (mvN l c v.1), .int .i64 (mvN l d v.2), .slice B (moveL l v).length q] 26)) (Kp.two (Kp.behind _ (.cells #[.int .i64 (mvN l a v.1), .int .i64 (mvN l b v.2), .int .i64 (mvN l c v.1), .int .i64 (mvN l d v.2), .slice B (moveL l v).length q] 26)) (Kp.two (Kp.behind _ (.cells #[.int .i64 (mvN l a v.1), .int .i64 (mvN l b v.2), .int .i64 (mvN l c v.1), .int .i64 (mvN l d v.2), .slice B (moveL l v).length q] 26)) (Kp.two (Kp.behind _ (.cells #[.int .i64 (mvN l a v.1), .int .i64 (mvN l b v.2), .int .i64 (mvN l c v.1), .int .i64 (mvN l d v.2), .slice B (moveL l v).length q] 26)) (Kp.two (Kp.behind _ (.cells #[.int .i64 (mvN l a v.1), .int .i64 (mvN l b v.2), .int .i64 (mvN l c v.1), .int .i64 (mvN l d v.2), .slice B (moveL l v).length q] 26)) (Kp.two (Kp.behind _ (.cells #[.int .i64 (mvN l a v.1), .int .i64 (mvN l b v.2), .int .i64 (mvN l c v.1), .int .i64 (mvN l d v.2), .slice B (moveL l v).length q] 26)) (Kp.one (Kp.behind _ (.cells #[.int .i64 (mvN l a v.1), .int .i64 (mvN l b v.2), .int .i64 (mvN l c v.1), .int .i64 (mvN l d v.2), .slice B (moveL l v).length q] 26)) (fun h => Kp.ad50 h w7.heap.size rfl (.int .i64 (mvN l a v.1)) (.int .i64 (mvN l b v.2)) (.int .i64 (mvN l c v.1)) (.int .i64 (mvN l d v.2)) (.slice B (moveL l v).length q) 26)))))))) K7.out)
        have y7 := K7.out
        have HP_1 := Lib.hid (pts_go HP_0.out (Kp.behind w7 (.cells #[.int .i64 (mvN l a v.1), .int .i64 (mvN l b v.2), .int .i64 (mvN l c v.1), .int .i64 (mvN l d v.2), .slice B (moveL l v).length q] 26)))
        clear HP_0
        clear K7 z7
        have z7 := M7.out
        have N7 := Lib.hid ((Kp.two (Kp.behind _ (.cells #[.int .i64 sx, .int .i64 sy] 28)) (Kp.two (Kp.behind _ (.cells #[.int .i64 sx, .int .i64 sy] 28)) (Kp.two (Kp.behind _ (.cells #[.int .i64 sx, .int .i64 sy] 28)) (Kp.two (Kp.behind _ (.cells #[.int .i64 sx, .int .i64 sy] 28)) (Kp.two (Kp.behind _ (.cells #[.int .i64 sx, .int .i64 sy] 28)) (Kp.two (Kp.behind _ (.cells #[.int .i64 sx, .int .i64 sy] 28)) (Kp.two (Kp.behind _ (.cells #[.int .i64 sx, .int .i64 sy] 28)) (Kp.two (Kp.behind _ (.cells #[.int .i64 sx, .int .i64 sy] 28)) (Kp.two (Kp.behind _ (.cells #[.int .i64 sx, .int .i64 sy] 28)) (fun h => Kp.add0 h (w7.heap.size + 1) (by simp) (.int .i64 sx) (.int .i64 sy) 28)))))))))) M7.out)
        have HP_2 := Lib.hid (pts_go HP_1.out (Kp.behind (w7.alloc (.cells #[.int .i64 (mvN l a v.1), .int .i64 (mvN l b v.2), .int .i64 (mvN l c v.1), .int .i64 (mvN l d v.2), .slice B (moveL l v).length q] 26)) (.cells #[.int .i64 sx, .int .i64 sy] 28)))
        clear HP_1
        clear M7
        have u7 := N7.out
        have x1 := SX.out.symm
        have x2 := SY.out.symm
        go_wp2_with fail
        clear x1 x2
        refine (C6.out _).mono ?_
        rintro e w8 ⟨rfl, hb8⟩
        have HP_8 := Lib.hid (pts_go HP_2.out hb8)
        have K8 := Lib.hid ((Kp.two hb8 (Kp.two hb8 (Kp.two hb8 (Kp.two hb8 (Kp.two hb8 (Kp.two hb8 (Kp.two hb8 (Kp.two hb8 (Kp.two hb8 (Kp.two hb8 (Kp.ends hb8))))))))))) N7.out)
        clear hb8 z7 y7 u7 N7 HP_2
        have z8 := K8.out
        go_wp2_with fail
        refine (C7.out _).mono ?_
        rintro e w9 ⟨rfl, hb9⟩
        have HP_9 := Lib.hid (pts_go HP_8.out hb9)
        have K9 := Lib.hid ((Kp.two hb9 (Kp.two hb9 (Kp.two hb9 (Kp.two hb9 (Kp.two hb9 (Kp.two hb9 (Kp.two hb9 (Kp.two hb9 (Kp.two hb9 (Kp.two hb9 (Kp.ends hb9))))))))))) K8.out)
        clear hb9 z8 K8 HP_8
        have z9 := K9.out
        go_wp2_with fail
        go_ret
        exact ⟨rfl, K9.out.2.2.2.2.2.2.2.2.2.2.2.2.2.2.2.2.2.2.2.2.2⟩
      · cases mq
        · have HP_0 := Lib.hid hP
          clear hP
          have K7 := Lib.hid ((Kp.two hb7 (Kp.two hb7 (Kp.two hb7 (Kp.two hb7 (Kp.two hb7 (Kp.two hb7 (Kp.one hb7 (Kp.ends hb7)))))))) K6.out)
          clear hb7 z6 K6
          have z7 := K7.out
          have M7 := Lib.hid ((Kp.two (Kp.behind _ (.cells #[.int .i64 (mvN l a v.1), .int .i64 (mvN l b v.2), .int .i64 (mvN l c v.1), .int .i64 (mvN l d v.2), .slice B (moveL l v).length q] 26)) (Kp.two (Kp.behind _ (.cells #[.int .i64 (mvN l a v.1), .int .i64 (mvN l b v.2), .int .i64 (mvN l c v.1), .int .i64 (mvN l d v.2), .slice B (moveL l v).length q] 26)) (Kp.two (Kp.behind _ (.cells #[.int .i64 (mvN l a v.1), .int .i64 (mvN l b v.2), .int .i64 (mvN l c v.1), .int .i64 (mvN l d v.2), .slice B (moveL l v).length q] 26)) (Kp.two (Kp.behind _ (.cells #[.int .i64 (mvN l a v.1), .int .i64 (mvN l b v.2), .int .i64 (mvN l c v.1), .int .i64 (mvN l d v.2), .slice B (moveL l v).length q] 26)) (Kp.two (Kp.behind _ (.cells #[.int .i64 (mvN l a v.1), .int .i64 (mvN l b v.2), .int .i64 (mvN l c v.1), .int .i64 (mvN l d v.2), .slice B (moveL l v).length q] 26)) (Kp.two (Kp.behind _ (.cells #[.int .i64 (mvN l a v.1), .int .i64 (mvN l b v.2), .int .i64 (mvN l c v.1), .int .i64 (mvN l d v.2), .slice B (moveL l v).length q] 26)) (Kp.one (Kp.behind _ (.cells #[.int .i64 (mvN l a v.1), .int .i64 (mvN l b v.2), .int .i64 (mvN l c v.1), .int .i64 (mvN l d v.2), .slice B (moveL l v).length q] 26)) (fun h => Kp.ad50 h w7.heap.size rfl (.int .i64 (mvN l a v.1)) (.int .i64 (mvN l b v.2)) (.int .i64 (mvN l c v.1)) (.int .i64 (mvN l d v.2)) (.slice B (moveL l v).length q) 26)))))))) K7.out)
          have y7 := K7.out
          have HP_1 := Lib.hid (pts_go HP_0.out (Kp.behind w7 (.cells #[.int .i64 (mvN l a v.1), .int .i64 (mvN l b v.2), .int .i64 (mvN l c v.1), .int .i64 (mvN l d v.2), .slice B (moveL l v).length q] 26)))
          clear HP_0
          clear K7 z7
          have z7 := M7.out
          have N7 := Lib.hid ((Kp.two (Kp.behind _ (.cells #[.int .i64 sx, .int .i64 sy] 28)) (Kp.two (Kp.behind _ (.cells #[.int .i64 sx, .int .i64 sy] 28)) (Kp.two (Kp.behind _ (.cells #[.int .i64 sx, .int .i64 sy] 28)) (Kp.two (Kp.behind _ (.cells #[.int .i64 sx, .int .i64 sy] 28)) (Kp.two (Kp.behind _ (.cells #[.int .i64 sx, .int .i64 sy] 28)) (Kp.two (Kp.behind _ (.cells #[.int .i64 sx, .int .i64 sy] 28)) (Kp.two (Kp.behind _ (.cells #[.int .i64 sx, .int .i64 sy] 28)) (Kp.two (Kp.behind _ (.cells #[.int .i64 sx, .int .i64 sy] 28)) (Kp.two (Kp.behind _ (.cells #[.int .i64 sx, .int .i64 sy] 28)) (fun h => Kp.add0 h (w7.heap.size + 1) (by simp) (.int .i64 sx) (.int .i64 sy) 28)))))))))) M7.out)
          have HP_2 := Lib.hid (pts_go HP_1.out (Kp.behind (w7.alloc (.cells #[.int .i64 (mvN l a v.1), .int .i64 (mvN l b v.2), .int .i64 (mvN l c v.1), .int .i64 (mvN l d v.2), .slice B (moveL l v).length q] 26)) (.cells #[.int .i64 sx, .int .i64 sy] 28)))
          clear HP_1
          clear M7
          have u7 := N7.out
          have x1 := SX.out.symm
          have x2 := SY.out.symm
          go_wp2_with fail
          clear x1 x2
          refine (C6.out _).mono ?_
          rintro e w8 ⟨rfl, hb8⟩
          have HP_8 := Lib.hid (pts_go HP_2.out hb8)
          have K8 := Lib.hid ((Kp.two hb8 (Kp.two hb8 (Kp.two hb8 (Kp.two hb8 (Kp.two hb8 (Kp.two hb8 (Kp.two hb8 (Kp.two hb8 (Kp.two hb8 (Kp.two hb8 (Kp.ends hb8))))))))))) N7.out)
          clear hb8 z7 y7 u7 N7 HP_2
          have z8 := K8.out
          go_wp2_with fail
          refine (C7.out _).mono ?_
          rintro e w9 ⟨rfl, hb9⟩
          have HP_9 := Lib.hid (pts_go HP_8.out hb9)
          have K9 := Lib.hid ((Kp.two hb9 (Kp.two hb9 (Kp.two hb9 (Kp.two hb9 (Kp.two hb9 (Kp.two hb9 (Kp.two hb9 (Kp.two hb9 (Kp.two hb9 (Kp.two hb9 (Kp.ends hb9))))))))))) K8.out)
          clear hb9 z8 K8 HP_8
          have z9 := K9.out
          go_wp2_with fail
          go_ret
          exact ⟨rfl, K9.out.2.2.2.2.2.2.2.2.2.2.2.2.2.2.2.2.2.2.2.2.2⟩
        · have hv : mayB v.1 v.2 = true := mvB_v hm
          obtain ⟨v1, v2⟩ := mayB_bd hv
          obtain ⟨p1, p2⟩ := mayB_bd EMP.out.symm
          have ESX : sx = p.1 + v.1 := by rw [SX.out]; exact wrap_two p1 v1
          have ESY : sy = p.2 + v.2 := by rw [SY.out]; exact wrap_two p2 v2
          obtain ⟨o1, o2, o3, o4⟩ := RO.out
          have X1 := Lib.hid (wrap_two o1 v1)
          have X2 := Lib.hid (wrap_two o2 v2)
          have X3 := Lib.hid (wrap_two o3 v1)
          have X4 := Lib.hid (wrap_two o4 v2)
          have HGm := Lib.hid (HGM.out hm)
          have HIm := Lib.hid (show rgI (mvN l a v.1) (mvN l b v.2) (mvN l c v.1) (mvN l d v.2) (moveL l v) (sx, sy) = false by
            have := HI.out hm EMP.out.symm (by unfold pmay addP; dsimp only; rw [← ESX, ← ESY]; exact EMQ.out.symm)
            unfold addP at this
            rw [← ESX, ← ESY] at this
            exact this)
          have C8 : Hid (∀ W, PtsAt W W.heap.size B (moveL l v) → Calls Try.prog 9 #[.agg #[.int .i64 (mvN l a v.1), .int .i64 (mvN l b v.2), .int .i64 (mvN l c v.1), .int .i64 (mvN l d v.2), .slice B (moveL l v).length q]] W fun e w' => e = .returned (.tuple #[.agg #[.int .i64 (r.x1 + v.1), .int .i64 (r.y1 + v.2), .int .i64 (r.x2 + v.1), .int .i64 (r.y2 + v.2)], .nilIface]) ∧ Below W.heap.size W w') := Lib.hid fun W hP => by
            have := box_any (mvN l a v.1) (mvN l b v.2) (mvN l c v.1) (mvN l d v.2) (moveL l v) B q W hP HN.out HGm.out
            rw [HX.out hm] at this
            exact this
          have C9 : Hid (∀ W, PtsAt W W.heap.size B (moveL l v) → Calls Try.prog 13 #[.agg #[.int .i64 (mvN l a v.1), .int .i64 (mvN l b v.2), .int .i64 (mvN l c v.1), .int .i64 (mvN l d v.2), .slice B (moveL l v).length q], .agg #[.int .i64 sx, .int .i64 sy]] W fun e w' => e = .returned (.bool false) ∧ Below W.heap.size W w') := Lib.hid fun W hP => by
            have := rin_any (mvN l a v.1) (mvN l b v.2) (mvN l c v.1) (mvN l d v.2) (moveL l v) B q (sx, sy) W hP HN.out
            rw [HIm.out] at this
            exact this
          clear hv v1 v2 p1 p2 ESX ESY o1 o2 o3 o4
          have HP_0 := Lib.hid hP
          clear hP
          have K7 := Lib.hid ((Kp.two hb7 (Kp.two hb7 (Kp.two hb7 (Kp.two hb7 (Kp.two hb7 (Kp.two hb7 (Kp.one hb7 (Kp.ends hb7)))))))) K6.out)
          clear hb7 z6 K6
          have z7 := K7.out
          have M7 := Lib.hid ((Kp.two (Kp.behind _ (.cells #[.int .i64 (mvN l a v.1), .int .i64 (mvN l b v.2), .int .i64 (mvN l c v.1), .int .i64 (mvN l d v.2), .slice B (moveL l v).length q] 26)) (Kp.two (Kp.behind _ (.cells #[.int .i64 (mvN l a v.1), .int .i64 (mvN l b v.2), .int .i64 (mvN l c v.1), .int .i64 (mvN l d v.2), .slice B (moveL l v).length q] 26)) (Kp.two (Kp.behind _ (.cells #[.int .i64 (mvN l a v.1), .int .i64 (mvN l b v.2), .int .i64 (mvN l c v.1), .int .i64 (mvN l d v.2), .slice B (moveL l v).length q] 26)) (Kp.two (Kp.behind _ (.cells #[.int .i64 (mvN l a v.1), .int .i64 (mvN l b v.2), .int .i64 (mvN l c v.1), .int .i64 (mvN l d v.2), .slice B (moveL l v).length q] 26)) (Kp.two (Kp.behind _ (.cells #[.int .i64 (mvN l a v.1), .int .i64 (mvN l b v.2), .int .i64 (mvN l c v.1), .int .i64 (mvN l d v.2), .slice B (moveL l v).length q] 26)) (Kp.two (Kp.behind _ (.cells #[.int .i64 (mvN l a v.1), .int .i64 (mvN l b v.2), .int .i64 (mvN l c v.1), .int .i64 (mvN l d v.2), .slice B (moveL l v).length q] 26)) (Kp.one (Kp.behind _ (.cells #[.int .i64 (mvN l a v.1), .int .i64 (mvN l b v.2), .int .i64 (mvN l c v.1), .int .i64 (mvN l d v.2), .slice B (moveL l v).length q] 26)) (fun h => Kp.ad50 h w7.heap.size rfl (.int .i64 (mvN l a v.1)) (.int .i64 (mvN l b v.2)) (.int .i64 (mvN l c v.1)) (.int .i64 (mvN l d v.2)) (.slice B (moveL l v).length q) 26)))))))) K7.out)
          have y7 := K7.out
          have HP_1 := Lib.hid (pts_go HP_0.out (Kp.behind w7 (.cells #[.int .i64 (mvN l a v.1), .int .i64 (mvN l b v.2), .int .i64 (mvN l c v.1), .int .i64 (mvN l d v.2), .slice B (moveL l v).length q] 26)))
          clear HP_0
          clear K7 z7
          have z7 := M7.out
          have N7 := Lib.hid ((Kp.two (Kp.behind _ (.cells #[.int .i64 sx, .int .i64 sy] 28)) (Kp.two (Kp.behind _ (.cells #[.int .i64 sx, .int .i64 sy] 28)) (Kp.two (Kp.behind _ (.cells #[.int .i64 sx, .int .i64 sy] 28)) (Kp.two (Kp.behind _ (.cells #[.int .i64 sx, .int .i64 sy] 28)) (Kp.two (Kp.behind _ (.cells #[.int .i64 sx, .int .i64 sy] 28)) (Kp.two (Kp.behind _ (.cells #[.int .i64 sx, .int .i64 sy] 28)) (Kp.two (Kp.behind _ (.cells #[.int .i64 sx, .int .i64 sy] 28)) (Kp.two (Kp.behind _ (.cells #[.int .i64 sx, .int .i64 sy] 28)) (Kp.two (Kp.behind _ (.cells #[.int .i64 sx, .int .i64 sy] 28)) (fun h => Kp.add0 h (w7.heap.size + 1) (by simp) (.int .i64 sx) (.int .i64 sy) 28)))))))))) M7.out)
          have HP_2 := Lib.hid (pts_go HP_1.out (Kp.behind (w7.alloc (.cells #[.int .i64 (mvN l a v.1), .int .i64 (mvN l b v.2), .int .i64 (mvN l c v.1), .int .i64 (mvN l d v.2), .slice B (moveL l v).length q] 26)) (.cells #[.int .i64 sx, .int .i64 sy] 28)))
          clear HP_1
          clear M7
          have u7 := N7.out
          have x1 := SX.out.symm
          have x2 := SY.out.symm
          go_wp2_with fail
          clear x1 x2
          refine (C6.out _).mono ?_
          rintro e w8 ⟨rfl, hb8⟩
          have HP_8 := Lib.hid (pts_go HP_2.out hb8)
          have K8 := Lib.hid ((Kp.two hb8 (Kp.two hb8 (Kp.two hb8 (Kp.two hb8 (Kp.two hb8 (Kp.two hb8 (Kp.two hb8 (Kp.two hb8 (Kp.two hb8 (Kp.two hb8 (Kp.ends hb8))))))))))) N7.out)
          clear hb8 z7 y7 u7 N7 HP_2
          have z8 := K8.out
          go_wp2_with fail
          refine (C7.out _).mono ?_
          rintro e w9 ⟨rfl, hb9⟩
          have HP_9 := Lib.hid (pts_go HP_8.out hb9)
          have K9 := Lib.hid ((Kp.two hb9 (Kp.two hb9 (Kp.two hb9 (Kp.two hb9 (Kp.two hb9 (Kp.two hb9 (Kp.two hb9 (Kp.two hb9 (Kp.two hb9 (Kp.two hb9 (Kp.ends hb9))))))))))) K8.out)
          clear hb9 z8 K8 HP_8
          have z9 := K9.out
          go_wp2_with fail
          refine (C8.out _ HP_9.out).mono ?_
          rintro e w10 ⟨rfl, hb10⟩
          have HP_10 := Lib.hid (pts_go HP_9.out hb10)
          have K10 := Lib.hid ((Kp.two hb10 (Kp.two hb10 (Kp.two hb10 (Kp.two hb10 (Kp.two hb10 (Kp.two hb10 (Kp.two hb10 (Kp.two hb10 (Kp.two hb10 (Kp.two hb10 (Kp.ends hb10))))))))))) K9.out)
          clear hb10 z9 K9 HP_9
          have z10 := K10.out
          have M10 := Lib.hid ((Kp.two (Kp.behind _ (.cells #[.int .i64 (r.x1 + v.1), .int .i64 (r.y1 + v.2), .int .i64 (r.x2 + v.1), .int .i64 (r.y2 + v.2)] 23)) (Kp.two (Kp.behind _ (.cells #[.int .i64 (r.x1 + v.1), .int .i64 (r.y1 + v.2), .int .i64 (r.x2 + v.1), .int .i64 (r.y2 + v.2)] 23)) (Kp.two (Kp.behind _ (.cells #[.int .i64 (r.x1 + v.1), .int .i64 (r.y1 + v.2), .int .i64 (r.x2 + v.1), .int .i64 (r.y2 + v.2)] 23)) (Kp.two (Kp.behind _ (.cells #[.int .i64 (r.x1 + v.1), .int .i64 (r.y1 + v.2), .int .i64 (r.x2 + v.1), .int .i64 (r.y2 + v.2)] 23)) (Kp.two (Kp.behind _ (.cells #[.int .i64 (r.x1 + v.1), .int .i64 (r.y1 + v.2), .int .i64 (r.x2 + v.1), .int .i64 (r.y2 + v.2)] 23)) (Kp.two (Kp.behind _ (.cells #[.int .i64 (r.x1 + v.1), .int .i64 (r.y1 + v.2), .int .i64 (r.x2 + v.1), .int .i64 (r.y2 + v.2)] 23)) (Kp.two (Kp.behind _ (.cells #[.int .i64 (r.x1 + v.1), .int .i64 (r.y1 + v.2), .int .i64 (r.x2 + v.1), .int .i64 (r.y2 + v.2)] 23)) (Kp.two (Kp.behind _ (.cells #[.int .i64 (r.x1 + v.1), .int .i64 (r.y1 + v.2), .int .i64 (r.x2 + v.1), .int .i64 (r.y2 + v.2)] 23)) (Kp.two (Kp.behind _ (.cells #[.int .i64 (r.x1 + v.1), .int .i64 (r.y1 + v.2), .int .i64 (r.x2 + v.1), .int .i64 (r.y2 + v.2)] 23)) (Kp.two (Kp.behind _ (.cells #[.int .i64 (r.x1 + v.1), .int .i64 (r.y1 + v.2), .int .i64 (r.x2 + v.1), .int .i64 (r.y2 + v.2)] 23)) (fun h => Kp.adq0 h w10.heap.size rfl (.int .i64 (r.x1 + v.1)) (.int .i64 (r.y1 + v.2)) (.int .i64 (r.x2 + v.1)) (.int .i64 (r.y2 + v.2)) 23))))))))))) K10.out)
          have y10 := K10.out
          have HPx := Lib.hid (pts_go HP_10.out (Kp.behind w10 (.cells #[.int .i64 (r.x1 + v.1), .int .i64 (r.y1 + v.2), .int .i64 (r.x2 + v.1), .int .i64 (r.y2 + v.2)] 23)))
          clear HP_10 K10 z10
          have z10 := M10.out
          have x1 := X1.out
          have x2 := X2.out
          have x3 := X3.out
          have x4 := X4.out
          have q5 : ∀ W, (binOp .eql 23 (.agg #[.int .i64 (r.x1 + v.1), .int .i64 (r.y1 + v.2), .int .i64 (r.x2 + v.1), .int .i64 (r.y2 + v.2)]) (.agg #[.int .i64 (r.x1 + v.1), .int .i64 (r.y1 + v.2), .int .i64 (r.x2 + v.1), .int .i64 (r.y2 + v.2)])).run Try.prog W = .ok (.bool true) W := fun W => by rw [eql_rect, eq4_self]
          go_wp2_with fail
          have HK := M10.out
          clear M10 z10 y10
          refine wp_region_held_drew (S := (fun W => (PtsAt W W.heap.size B (moveL l v)) ∧ W.cell? ⟨w.heap.size, 0, none⟩ = some (.int .i64 a) ∧ W.cell? ⟨w.heap.size, 1, none⟩ = some (.int .i64 b) ∧ W.cell? ⟨w.heap.size, 2, none⟩ = some (.int .i64 c) ∧ W.cell? ⟨w.heap.size, 3, none⟩ = some (.int .i64 d) ∧ W.cell? ⟨w.heap.size, 4, none⟩ = some (.slice A n k) ∧ W.cell? ⟨w.heap.size + 1, 0, none⟩ = some (.int .i64 p.1) ∧ W.cell? ⟨w.heap.size + 1, 1, none⟩ = some (.int .i64 p.2) ∧ W.cell? ⟨w.heap.size + 1 + 1, 0, none⟩ = some (.int .i64 v.1) ∧ W.cell? ⟨w.heap.size + 1 + 1, 1, none⟩ = some (.int .i64 v.2) ∧ W.cell? ⟨w4.heap.size, 0, none⟩ = some (.int .i64 r.x1) ∧ W.cell? ⟨w4.heap.size, 1, none⟩ = some (.int .i64 r.y1) ∧ W.cell? ⟨w4.heap.size, 2, none⟩ = some (.int .i64 r.x2) ∧ W.cell? ⟨w4.heap.size, 3, none⟩ = some (.int .i64 r.y2) ∧ W.cell? ⟨w7.heap.size, 0, none⟩ = some (.int .i64 (mvN l a v.1)) ∧ W.cell? ⟨w7.heap.size, 1, none⟩ = some (.int .i64 (mvN l b v.2)) ∧ W.cell? ⟨w7.heap.size, 2, none⟩ = some (.int .i64 (mvN l c v.1)) ∧ W.cell? ⟨w7.heap.size, 3, none⟩ = some (.int .i64 (mvN l d v.2)) ∧ W.cell? ⟨w7.heap.size, 4, none⟩ = some (.slice B (moveL l v).length q) ∧ W.cell? ⟨w7.heap.size + 1, 0, none⟩ = some (.int .i64 sx) ∧ W.cell? ⟨w7.heap.size + 1, 1, none⟩ = some (.int .i64 sy) ∧ W.cell? ⟨w10.heap.size, 0, none⟩ = some (.int .i64 (r.x1 + v.1)) ∧ W.cell? ⟨w10.heap.size, 1, none⟩ = some (.int .i64 (r.y1 + v.2)) ∧ W.cell? ⟨w10.heap.size, 2, none⟩ = some (.int .i64 (r.x2 + v.1)) ∧ W.cell? ⟨w10.heap.size, 3, none⟩ = some (.int .i64 (r.y2 + v.2)) ∧ w.heap.size ≤ W.heap.size ∧ Below w.heap.size w W)) (by kernel_rfl) (by exact ⟨HPx.out, HK.1, HK.2.1, HK.2.2.1, HK.2.2.2.1, HK.2.2.2.2.1, HK.2.2.2.2.2.1, HK.2.2.2.2.2.2.1, HK.2.2.2.2.2.2.2.1, HK.2.2.2.2.2.2.2.2.1, HK.2.2.2.2.2.2.2.2.2.1, HK.2.2.2.2.2.2.2.2.2.2.1, HK.2.2.2.2.2.2.2.2.2.2.2.1, HK.2.2.2.2.2.2.2.2.2.2.2.2.1, HK.2.2.2.2.2.2.2.2.2.2.2.2.2.1, HK.2.2.2.2.2.2.2.2.2.2.2.2.2.2.1, HK.2.2.2.2.2.2.2.2.2.2.2.2.2.2.2.1, HK.2.2.2.2.2.2.2.2.2.2.2.2.2.2.2.2.1, HK.2.2.2.2.2.2.2.2.2.2.2.2.2.2.2.2.2.1, HK.2.2.2.2.2.2.2.2.2.2.2.2.2.2.2.2.2.2.1, HK.2.2.2.2.2.2.2.2.2.2.2.2.2.2.2.2.2.2.2.1, HK.2.2.2.2.2.2.2.2.2.2.2.2.2.2.2.2.2.2.2.2.1, HK.2.2.2.2.2.2.2.2.2.2.2.2.2.2.2.2.2.2.2.2.2.1, HK.2.2.2.2.2.2.2.2.2.2.2.2.2.2.2.2.2.2.2.2.2.2.1, HK.2.2.2.2.2.2.2.2.2.2.2.2.2.2.2.2.2.2.2.2.2.2.2.1, HK.2.2.2.2.2.2.2.2.2.2.2.2.2.2.2.2.2.2.2.2.2.2.2.2.1, HK.2.2.2.2.2.2.2.2.2.2.2.2.2.2.2.2.2.2.2.2.2.2.2.2.2.drew⟩) (fun hHeld => ?_)
          refine wpAnyH_take (i := 0) (v := ?vKf0) rfl (by kernel_rfl) (by kernel_rfl) (by kernel_rfl) (fun _ _ _ h => h) (Or.inl ⟨by rfl, ?yKf0⟩) hHeld ?rKf0
          case yKf0 => (intro W hSw; simp only [List.getElem_toArray, List.getElem_cons_zero]; go_simp; try (with_reducible rfl))
          simp only [List.getElem_toArray, List.getElem_cons_zero, Act.put, List.setIfInBounds_toArray, List.set_cons_zero, List.set_cons_succ]
          refine wpAnyH_take (i := 1) (v := ?vKf1) rfl (by kernel_rfl) (by kernel_rfl) (by kernel_rfl) (fun _ _ _ h => h) (Or.inl ⟨by rfl, ?yKf1⟩) hHeld ?rKf1
          case yKf1 => (intro W hSw; simp only [List.getElem_toArray, List.getElem_cons_succ, List.getElem_cons_zero]; go_simp; try (with_reducible rfl))
          simp only [List.getElem_toArray, List.getElem_cons_succ, List.getElem_cons_zero, Act.put, List.setIfInBounds_toArray, List.set_cons_zero, List.set_cons_succ]
          refine wpAnyH_take (i := 2) (v := ?vKf2) rfl (by kernel_rfl) (by kernel_rfl) (by kernel_rfl) (fun _ _ _ h => h) (Or.inl ⟨by rfl, ?yKf2⟩) hHeld ?rKf2
          case yKf2 => (intro W hSw; simp only [List.getElem_toArray, List.getElem_cons_succ, List.getElem_cons_zero]; go_simp; try (with_reducible rfl))
          simp only [List.getElem_toArray, List.getElem_cons_succ, List.getElem_cons_zero, Act.put, List.setIfInBounds_toArray, List.set_cons_zero, List.set_cons_succ]
          refine wpAnyH_take (i := 3) (v := ?vKf3) rfl (by kernel_rfl) (by kernel_rfl) (by kernel_rfl) (fun _ _ _ h => h) (Or.inl ⟨by rfl, ?yKf3⟩) hHeld ?rKf3
          case yKf3 => (intro W hSw; simp only [List.getElem_toArray, List.getElem_cons_succ, List.getElem_cons_zero]; go_simp; try (with_reducible rfl))
          simp only [List.getElem_toArray, List.getElem_cons_succ, List.getElem_cons_zero, Act.put, List.setIfInBounds_toArray, List.set_cons_zero, List.set_cons_succ]
          refine wpAnyH_take (i := 4) (v := ?vKf4) rfl (by kernel_rfl) (by kernel_rfl) (by kernel_rfl) (fun _ _ _ h => h) (Or.inl ⟨by rfl, ?yKf4⟩) hHeld ?rKf4
          case yKf4 => (intro W hSw; simp only [List.getElem_toArray, List.getElem_cons_succ, List.getElem_cons_zero]; go_simp; try (with_reducible rfl))
          simp only [List.getElem_toArray, List.getElem_cons_succ, List.getElem_cons_zero, Act.put, List.setIfInBounds_toArray, List.set_cons_zero, List.set_cons_succ]
          refine wpAnyH_take (i := 5) (v := ?vKf5) rfl (by kernel_rfl) (by kernel_rfl) (by kernel_rfl) (fun _ _ _ h => h) (Or.inl ⟨by rfl, ?yKf5⟩) hHeld ?rKf5
          case yKf5 => (intro W hSw; simp only [List.getElem_toArray, List.getElem_cons_succ, List.getElem_cons_zero]; go_simp; try (with_reducible rfl))
          simp only [List.getElem_toArray, List.getElem_cons_succ, List.getElem_cons_zero, Act.put, List.setIfInBounds_toArray, List.set_cons_zero, List.set_cons_succ]
          refine wpAnyH_take (i := 6) (v := ?vKf6) rfl (by kernel_rfl) (by kernel_rfl) (by kernel_rfl) (fun _ _ _ h => h) (Or.inl ⟨by rfl, ?yKf6⟩) hHeld ?rKf6
          case yKf6 => (intro W hSw; simp only [List.getElem_toArray, List.getElem_cons_succ, List.getElem_cons_zero]; go_simp; try (with_reducible rfl))
          simp only [List.getElem_toArray, List.getElem_cons_succ, List.getElem_cons_zero, Act.put, List.setIfInBounds_toArray, List.set_cons_zero, List.set_cons_succ]
          refine wpAnyH_take (i := 7) (v := ?vKf7) rfl (by kernel_rfl) (by kernel_rfl) (by kernel_rfl) (fun _ _ _ h => h) (Or.inl ⟨by rfl, ?yKf7⟩) hHeld ?rKf7
          case yKf7 => (intro W hSw; simp only [List.getElem_toArray, List.getElem_cons_succ, List.getElem_cons_zero]; go_simp; try (with_reducible rfl))
          simp only [List.getElem_toArray, List.getElem_cons_succ, List.getElem_cons_zero, Act.put, List.setIfInBounds_toArray, List.set_cons_zero, List.set_cons_succ]
          refine wpAnyH_take (i := 9) (v := ?vKf9) rfl (by kernel_rfl) (by kernel_rfl) (by kernel_rfl) (fun _ _ _ h => h) (Or.inl ⟨by rfl, ?yKf9⟩) hHeld ?rKf9
          case yKf9 => (intro W hSw; simp only [List.getElem_toArray, List.getElem_cons_succ, List.getElem_cons_zero]; go_simp; try (with_reducible rfl))
          simp only [List.getElem_toArray, List.getElem_cons_succ, List.getElem_cons_zero, Act.put, List.setIfInBounds_toArray, List.set_cons_zero, List.set_cons_succ]
          refine wpAnyH_take (i := 10) (v := ?vKf10) rfl (by kernel_rfl) (by kernel_rfl) (by kernel_rfl) (fun _ _ _ h => h) (Or.inl ⟨by rfl, ?yKf10⟩) hHeld ?rKf10
          case yKf10 => (intro W hSw; simp only [List.getElem_toArray, List.getElem_cons_succ, List.getElem_cons_zero]; go_simp; try (with_reducible rfl))
          simp only [List.getElem_toArray, List.getElem_cons_succ, List.getElem_cons_zero, Act.put, List.setIfInBounds_toArray, List.set_cons_zero, List.set_cons_succ]
          refine wpAnyH_ready (rs := [8]) (by kernel_rfl) (by simp) (AllReadyH.cons rfl (fun K hK => ?_) AllReadyH.nil)
          simp only [List.getElem_toArray, List.getElem_cons_succ, List.getElem_cons_zero]
          go_simp
          (go_at_call 13; refine (C9.out _ hHeld.1).mono ?_; rintro e w20 ⟨rfl, hb1⟩)
          try go_wp2_with fail
          refine hK.out _ _ (⟨pts_go hHeld.1 hb1, (Kp.two hb1 (Kp.two hb1 (Kp.two hb1 (Kp.two hb1 (Kp.two hb1 (Kp.two hb1 (Kp.two hb1 (Kp.two hb1 (Kp.two hb1 (Kp.two hb1 (Kp.two hb1 (Kp.two hb1 (Kp.ends hb1))))))))))))) hHeld.2⟩) (fun hHeld1 => ?_)
          clear hK K hHeld
          have hHeld := hHeld1; clear hHeld1
          try simp only [List.getElem_toArray, List.getElem_cons_succ, List.getElem_cons_zero, Act.put, List.setIfInBounds_toArray, List.set_cons_zero, List.set_cons_succ]
          refine wpAnyH_ready (rs := [11]) (by kernel_rfl) (by simp) (AllReadyH.cons rfl (fun K hK => ?_) AllReadyH.nil)
          simp only [List.getElem_toArray, List.getElem_cons_succ, List.getElem_cons_zero]
          go_simp
          (go_at_call 13; refine (C3g.out _ hHeld.2.2.2.2.2.2.2.2.2.2.2.2.2.2.2.2.2.2.2.2.2.2.2.2.2.2).mono ?_; rintro e w21 ⟨rfl, hb1⟩)
          try go_wp2_with fail
          refine hK.out _ _ (⟨pts_go hHeld.1 hb1, (Kp.two hb1 (Kp.two hb1 (Kp.two hb1 (Kp.two hb1 (Kp.two hb1 (Kp.two hb1 (Kp.two hb1 (Kp.two hb1 (Kp.two hb1 (Kp.two hb1 (Kp.two hb1 (Kp.two hb1 (Kp.ends hb1))))))))))))) hHeld.2⟩) (fun hHeld1 => ?_)
          clear hK K hHeld
          have hHeld := hHeld1; clear hHeld1
          try simp only [List.getElem_toArray, List.getElem_cons_succ, List.getElem_cons_zero, Act.put, List.setIfInBounds_toArray, List.set_cons_zero, List.set_cons_succ]
          refine wpAnyH_take (i := 12) (v := ?vKf12) rfl (by kernel_rfl) (by kernel_rfl) (by kernel_rfl) (fun _ _ _ h => h) (Or.inl ⟨by rfl, ?yKf12⟩) hHeld ?rKf12
          case yKf12 => (intro W hSw; simp only [List.getElem_toArray, List.getElem_cons_succ, List.getElem_cons_zero]; go_simp; try (with_reducible rfl))
          simp only [List.getElem_toArray, List.getElem_cons_succ, List.getElem_cons_zero, Act.put, List.setIfInBounds_toArray, List.set_cons_zero, List.set_cons_succ]
          refine wpAnyH_take (i := 13) (v := ?vKf13) rfl (by kernel_rfl) (by kernel_rfl) (by kernel_rfl) (fun _ _ _ h => h) (Or.inl ⟨by rfl, ?yKf13⟩) hHeld ?rKf13
          case yKf13 => (intro W hSw; simp only [List.getElem_toArray, List.getElem_cons_succ, List.getElem_cons_zero]; go_simp; try (with_reducible rfl))
          simp only [List.getElem_toArray, List.getElem_cons_succ, List.getElem_cons_zero, Act.put, List.setIfInBounds_toArray, List.set_cons_zero, List.set_cons_succ]
          refine wpAnyH_take (i := 14) (v := ?vKf14) rfl (by kernel_rfl) (by kernel_rfl) (by kernel_rfl) (fun _ _ _ h => h) (Or.inl ⟨by rfl, ?yKf14⟩) hHeld ?rKf14
          case yKf14 => (intro W hSw; simp only [List.getElem_toArray, List.getElem_cons_succ, List.getElem_cons_zero]; go_simp; try (with_reducible rfl))
          simp only [List.getElem_toArray, List.getElem_cons_succ, List.getElem_cons_zero, Act.put, List.setIfInBounds_toArray, List.set_cons_zero, List.set_cons_succ]
          refine wpAnyH_take (i := 15) (v := ?vKf15) rfl (by kernel_rfl) (by kernel_rfl) (by kernel_rfl) (fun _ _ _ h => h) (Or.inl ⟨by rfl, ?yKf15⟩) hHeld ?rKf15
          case yKf15 => (intro W hSw; simp only [List.getElem_toArray, List.getElem_cons_succ, List.getElem_cons_zero]; go_simp; try (with_reducible rfl))
          simp only [List.getElem_toArray, List.getElem_cons_succ, List.getElem_cons_zero, Act.put, List.setIfInBounds_toArray, List.set_cons_zero, List.set_cons_succ]
          refine wpAnyH_take (i := 16) (v := ?vKf16) rfl (by kernel_rfl) (by kernel_rfl) (by kernel_rfl) (fun _ _ _ h => h) (Or.inl ⟨by rfl, ?yKf16⟩) hHeld ?rKf16
          case yKf16 => (intro W hSw; simp only [List.getElem_toArray, List.getElem_cons_succ, List.getElem_cons_zero]; go_simp; try (with_reducible rfl))
          simp only [List.getElem_toArray, List.getElem_cons_succ, List.getElem_cons_zero, Act.put, List.setIfInBounds_toArray, List.set_cons_zero, List.set_cons_succ]
          refine wpAnyH_take (i := 17) (v := ?vKf17) rfl (by kernel_rfl) (by kernel_rfl) (by kernel_rfl) (fun _ _ _ h => h) (Or.inl ⟨by rfl, ?yKf17⟩) hHeld ?rKf17
          case yKf17 => (intro W hSw; simp only [List.getElem_toArray, List.getElem_cons_succ, List.getElem_cons_zero]; go_simp; try (with_reducible rfl))
          simp only [List.getElem_toArray, List.getElem_cons_succ, List.getElem_cons_zero, Act.put, List.setIfInBounds_toArray, List.set_cons_zero, List.set_cons_succ]
          refine wpAnyH_take (i := 18) (v := ?vKf18) rfl (by kernel_rfl) (by kernel_rfl) (by kernel_rfl) (fun _ _ _ h => h) (Or.inl ⟨by rfl, ?yKf18⟩) hHeld ?rKf18
          case yKf18 => (intro W hSw; simp only [List.getElem_toArray, List.getElem_cons_succ, List.getElem_cons_zero]; go_simp; try (with_reducible rfl))
          simp only [List.getElem_toArray, List.getElem_cons_succ, List.getElem_cons_zero, Act.put, List.setIfInBounds_toArray, List.set_cons_zero, List.set_cons_succ]
          refine wpAnyH_take (i := 19) (v := ?vKf19) rfl (by kernel_rfl) (by kernel_rfl) (by kernel_rfl) (fun _ _ _ h => h) (Or.inl ⟨by rfl, ?yKf19⟩) hHeld ?rKf19
          case yKf19 => (intro W hSw; simp only [List.getElem_toArray, List.getElem_cons_succ, List.getElem_cons_zero]; go_simp; try (with_reducible rfl))
          simp only [List.getElem_toArray, List.getElem_cons_succ, List.getElem_cons_zero, Act.put, List.setIfInBounds_toArray, List.set_cons_zero, List.set_cons_succ]
          refine wpAnyH_take (i := 20) (v := ?vKf20) rfl (by kernel_rfl) (by kernel_rfl) (by kernel_rfl) (fun _ _ _ h => h) (Or.inl ⟨by rfl, ?yKf20⟩) hHeld ?rKf20
          case yKf20 => (intro W hSw; simp only [List.getElem_toArray, List.getElem_cons_succ, List.getElem_cons_zero]; go_simp; try (with_reducible rfl))
          simp only [List.getElem_toArray, List.getElem_cons_succ, List.getElem_cons_zero, Act.put, List.setIfInBounds_toArray, List.set_cons_zero, List.set_cons_succ]
          refine wpAnyH_take (i := 21) (v := ?vKf21) rfl (by kernel_rfl) (by kernel_rfl) (by kernel_rfl) (fun _ _ _ h => h) (Or.inl ⟨by rfl, ?yKf21⟩) hHeld ?rKf21
          case yKf21 => (intro W hSw; simp only [List.getElem_toArray, List.getElem_cons_succ, List.getElem_cons_zero]; go_simp; try (with_reducible rfl))
          simp only [List.getElem_toArray, List.getElem_cons_succ, List.getElem_cons_zero, Act.put, List.setIfInBounds_toArray, List.set_cons_zero, List.set_cons_succ]
          refine wpAnyH_take (i := 22) (v := ?vKf22) rfl (by kernel_rfl) (by kernel_rfl) (by kernel_rfl) (fun _ _ _ h => h) (Or.inl ⟨by rfl, ?yKf22⟩) hHeld ?rKf22
          case yKf22 => (intro W hSw; simp only [List.getElem_toArray, List.getElem_cons_succ, List.getElem_cons_zero]; go_simp; try (with_reducible rfl))
          simp only [List.getElem_toArray, List.getElem_cons_succ, List.getElem_cons_zero, Act.put, List.setIfInBounds_toArray, List.set_cons_zero, List.set_cons_succ]
          refine wpAnyH_take (i := 23) (v := ?vKf23) rfl (by kernel_rfl) (by kernel_rfl) (by kernel_rfl) (fun _ _ _ h => h) (Or.inl ⟨by rfl, ?yKf23⟩) hHeld ?rKf23
          case yKf23 => (intro W hSw; simp only [List.getElem_toArray, List.getElem_cons_succ, List.getElem_cons_zero]; go_simp; try (with_reducible rfl))
          simp only [List.getElem_toArray, List.getElem_cons_succ, List.getElem_cons_zero, Act.put, List.setIfInBounds_toArray, List.set_cons_zero, List.set_cons_succ]
          refine wpAnyH_take (i := 24) (v := ?vKf24) rfl (by kernel_rfl) (by kernel_rfl) (by kernel_rfl) (fun _ _ _ h => h) (Or.inl ⟨by rfl, ?yKf24⟩) hHeld ?rKf24
          case yKf24 => (intro W hSw; simp only [List.getElem_toArray, List.getElem_cons_succ, List.getElem_cons_zero]; go_simp; try (with_reducible rfl))
          simp only [List.getElem_toArray, List.getElem_cons_succ, List.getElem_cons_zero, Act.put, List.setIfInBounds_toArray, List.set_cons_zero, List.set_cons_succ]
          refine wpAnyH_take (i := 25) (v := ?vKf25) rfl (by kernel_rfl) (by kernel_rfl) (by kernel_rfl) (fun _ _ _ h => h) (Or.inl ⟨by rfl, ?yKf25⟩) hHeld ?rKf25
          case yKf25 => (intro W hSw; simp only [List.getElem_toArray, List.getElem_cons_succ, List.getElem_cons_zero]; go_simp; try (with_reducible rfl))
          simp only [List.getElem_toArray, List.getElem_cons_succ, List.getElem_cons_zero, Act.put, List.setIfInBounds_toArray, List.set_cons_zero, List.set_cons_succ]
          refine wpAnyH_take (i := 26) (v := ?vKf26) rfl (by kernel_rfl) (by kernel_rfl) (by kernel_rfl) (fun _ _ _ h => h) (Or.inl ⟨by rfl, ?yKf26⟩) hHeld ?rKf26
          case yKf26 => (intro W hSw; simp only [List.getElem_toArray, List.getElem_cons_succ, List.getElem_cons_zero]; go_simp; try (with_reducible rfl))
          simp only [List.getElem_toArray, List.getElem_cons_succ, List.getElem_cons_zero, Act.put, List.setIfInBounds_toArray, List.set_cons_zero, List.set_cons_succ]
          refine wpAnyH_take (i := 27) (v := ?vKf27) rfl (by kernel_rfl) (by kernel_rfl) (by kernel_rfl) (fun _ _ _ h => h) (Or.inl ⟨by rfl, ?yKf27⟩) hHeld ?rKf27
          case yKf27 => (intro W hSw; simp only [List.getElem_toArray, List.getElem_cons_succ, List.getElem_cons_zero]; go_simp; try (with_reducible rfl))
          simp only [List.getElem_toArray, List.getElem_cons_succ, List.getElem_cons_zero, Act.put, List.setIfInBounds_toArray, List.set_cons_zero, List.set_cons_succ]
          refine wpAnyH_take (i := 28) (v := ?vKf28) rfl (by kernel_rfl) (by kernel_rfl) (by kernel_rfl) (fun _ _ _ h => h) (Or.inl ⟨by rfl, ?yKf28⟩) hHeld ?rKf28
          case yKf28 => (intro W hSw; simp only [List.getElem_toArray, List.getElem_cons_succ, List.getElem_cons_zero]; go_simp; try (with_reducible rfl))
          simp only [List.getElem_toArray, List.getElem_cons_succ, List.getElem_cons_zero, Act.put, List.setIfInBounds_toArray, List.set_cons_zero, List.set_cons_succ]
          refine wpAnyH_take (i := 29) (v := ?vKf29) rfl (by kernel_rfl) (by kernel_rfl) (by kernel_rfl) (fun _ _ _ h => h) (Or.inl ⟨by rfl, ?yKf29⟩) hHeld ?rKf29
          case yKf29 => (intro W hSw; simp only [List.getElem_toArray, List.getElem_cons_succ, List.getElem_cons_zero]; go_simp; try (with_reducible rfl))
          simp only [List.getElem_toArray, List.getElem_cons_succ, List.getElem_cons_zero, Act.put, List.setIfInBounds_toArray, List.set_cons_zero, List.set_cons_succ]
          refine wpAnyH_take (i := 30) (v := ?vKf30) rfl (by kernel_rfl) (by kernel_rfl) (by kernel_rfl) (fun _ _ _ h => h) (Or.inl ⟨by rfl, ?yKf30⟩) hHeld ?rKf30
          case yKf30 => (intro W hSw; simp only [List.getElem_toArray, List.getElem_cons_succ, List.getElem_cons_zero]; go_simp; try (with_reducible rfl))
          simp only [List.getElem_toArray, List.getElem_cons_succ, List.getElem_cons_zero, Act.put, List.setIfInBounds_toArray, List.set_cons_zero, List.set_cons_succ]
          refine wpAnyH_take (i := 31) (v := ?vKf31) rfl (by kernel_rfl) (by kernel_rfl) (by kernel_rfl) (fun _ _ _ h => h) (Or.inl ⟨by rfl, ?yKf31⟩) hHeld ?rKf31
          case yKf31 => (intro W hSw; simp only [List.getElem_toArray, List.getElem_cons_succ, List.getElem_cons_zero]; go_simp; try (with_reducible rfl))
          simp only [List.getElem_toArray, List.getElem_cons_succ, List.getElem_cons_zero, Act.put, List.setIfInBounds_toArray, List.set_cons_zero, List.set_cons_succ]
          refine wpAnyH_take (i := 32) (v := ?vKf32) rfl (by kernel_rfl) (by kernel_rfl) (by kernel_rfl) (fun _ _ _ h => h) (Or.inl ⟨by rfl, ?yKf32⟩) hHeld ?rKf32
          case yKf32 => (intro W hSw; simp only [List.getElem_toArray, List.getElem_cons_succ, List.getElem_cons_zero]; go_simp; try (with_reducible rfl))
          simp only [List.getElem_toArray, List.getElem_cons_succ, List.getElem_cons_zero, Act.put, List.setIfInBounds_toArray, List.set_cons_zero, List.set_cons_succ]
          refine wpAnyH_take (i := 33) (v := ?vKf33) rfl (by kernel_rfl) (by kernel_rfl) (by kernel_rfl) (fun _ _ _ h => h) (Or.inl ⟨by rfl, ?yKf33⟩) hHeld ?rKf33
          case yKf33 => (intro W hSw; simp only [List.getElem_toArray, List.getElem_cons_succ, List.getElem_cons_zero]; go_simp; try (with_reducible rfl))
          simp only [List.getElem_toArray, List.getElem_cons_succ, List.getElem_cons_zero, Act.put, List.setIfInBounds_toArray, List.set_cons_zero, List.set_cons_succ]
          refine wpAnyH_take (i := 34) (v := ?vKf34) rfl (by kernel_rfl) (by kernel_rfl) (by kernel_rfl) (fun _ _ _ h => h) (Or.inl ⟨by rfl, ?yKf34⟩) hHeld ?rKf34
          case yKf34 => (intro W hSw; simp only [List.getElem_toArray, List.getElem_cons_succ, List.getElem_cons_zero]; go_simp; try (with_reducible rfl))
          simp only [List.getElem_toArray, List.getElem_cons_succ, List.getElem_cons_zero, Act.put, List.setIfInBounds_toArray, List.set_cons_zero, List.set_cons_succ]
          refine wpAnyH_take (i := 35) (v := ?vKf35) rfl (by kernel_rfl) (by kernel_rfl) (by kernel_rfl) (fun _ _ _ h => h) (Or.inl ⟨by rfl, ?yKf35⟩) hHeld ?rKf35
          case yKf35 => (intro W hSw; simp only [List.getElem_toArray, List.getElem_cons_succ, List.getElem_cons_zero]; go_simp; try (with_reducible rfl))
          simp only [List.getElem_toArray, List.getElem_cons_succ, List.getElem_cons_zero, Act.put, List.setIfInBounds_toArray, List.set_cons_zero, List.set_cons_succ]
          refine wpAnyH_take (i := 36) (v := ?vKf36) rfl (by kernel_rfl) (by kernel_rfl) (by kernel_rfl) (fun _ _ _ h => h) (Or.inl ⟨by rfl, ?yKf36⟩) hHeld ?rKf36
          case yKf36 => (intro W hSw; simp only [List.getElem_toArray, List.getElem_cons_succ, List.getElem_cons_zero]; go_simp; try (with_reducible rfl))
          simp only [List.getElem_toArray, List.getElem_cons_succ, List.getElem_cons_zero, Act.put, List.setIfInBounds_toArray, List.set_cons_zero, List.set_cons_succ]
          refine wpAnyH_take (i := 37) (v := ?vKf37) rfl (by kernel_rfl) (by kernel_rfl) (by kernel_rfl) (fun _ _ _ h => h) (Or.inl ⟨by rfl, ?yKf37⟩) hHeld ?rKf37
          case yKf37 => (intro W hSw; simp only [List.getElem_toArray, List.getElem_cons_succ, List.getElem_cons_zero]; go_simp; try (with_reducible rfl))
          simp only [List.getElem_toArray, List.getElem_cons_succ, List.getElem_cons_zero, Act.put, List.setIfInBounds_toArray, List.set_cons_zero, List.set_cons_succ]
          refine wpAnyH_take (i := 38) (v := ?vKf38) rfl (by kernel_rfl) (by kernel_rfl) (by kernel_rfl) (fun _ _ _ h => h) (Or.inl ⟨by rfl, ?yKf38⟩) hHeld ?rKf38
          case yKf38 => (intro W hSw; simp only [List.getElem_toArray, List.getElem_cons_succ, List.getElem_cons_zero]; go_simp; try (with_reducible rfl))
          simp only [List.getElem_toArray, List.getElem_cons_succ, List.getElem_cons_zero, Act.put, List.setIfInBounds_toArray, List.set_cons_zero, List.set_cons_succ]
          refine wpAnyH_take (i := 39) (v := ?vKf39) rfl (by kernel_rfl) (by kernel_rfl) (by kernel_rfl) (fun _ _ _ h => h) (Or.inl ⟨by rfl, ?yKf39⟩) hHeld ?rKf39
          case yKf39 => (intro W hSw; simp only [List.getElem_toArray, List.getElem_cons_succ, List.getElem_cons_zero]; go_simp; try (with_reducible rfl))
          simp only [List.getElem_toArray, List.getElem_cons_succ, List.getElem_cons_zero, Act.put, List.setIfInBounds_toArray, List.set_cons_zero, List.set_cons_succ]
          refine wpAnyH_done (by kernel_rfl) ?_ _
          go_wp2_with fail
          go_ret
          exact ⟨by simp, hHeld.2.2.2.2.2.2.2.2.2.2.2.2.2.2.2.2.2.2.2.2.2.2.2.2.2.2⟩
    · have K7 := Lib.hid ((Kp.two hb7 (Kp.two hb7 (Kp.two hb7 (Kp.two hb7 (Kp.two hb7 (Kp.two hb7 (Kp.one hb7 (Kp.ends hb7)))))))) K6.out)
      clear hb7 z6 K6
      have z7 := K7.out
      have M7 := Lib.hid ((Kp.two (Kp.behind _ (.cells #[.int .i64 0, .int .i64 0, .int .i64 0, .int .i64 0, .slice none 0 0] 26)) (Kp.two (Kp.behind _ (.cells #[.int .i64 0, .int .i64 0, .int .i64 0, .int .i64 0, .slice none 0 0] 26)) (Kp.two (Kp.behind _ (.cells #[.int .i64 0, .int .i64 0, .int .i64 0, .int .i64 0, .slice none 0 0] 26)) (Kp.two (Kp.behind _ (.cells #[.int .i64 0, .int .i64 0, .int .i64 0, .int .i64 0, .slice none 0 0] 26)) (Kp.two (Kp.behind _ (.cells #[.int .i64 0, .int .i64 0, .int .i64 0, .int .i64 0, .slice none 0 0] 26)) (Kp.two (Kp.behind _ (.cells #[.int .i64 0, .int .i64 0, .int .i64 0, .int .i64 0, .slice none 0 0] 26)) (Kp.one (Kp.behind _ (.cells #[.int .i64 0, .int .i64 0, .int .i64 0, .int .i64 0, .slice none 0 0] 26)) (fun h => Kp.ad50 h w7.heap.size rfl (.int .i64 0) (.int .i64 0) (.int .i64 0) (.int .i64 0) (.slice none 0 0) 26)))))))) K7.out)
      have y7 := K7.out
      clear K7 z7
      have z7 := M7.out
      have N7 := Lib.hid ((Kp.two (Kp.behind _ (.cells #[.int .i64 sx, .int .i64 sy] 28)) (Kp.two (Kp.behind _ (.cells #[.int .i64 sx, .int .i64 sy] 28)) (Kp.two (Kp.behind _ (.cells #[.int .i64 sx, .int .i64 sy] 28)) (Kp.two (Kp.behind _ (.cells #[.int .i64 sx, .int .i64 sy] 28)) (Kp.two (Kp.behind _ (.cells #[.int .i64 sx, .int .i64 sy] 28)) (Kp.two (Kp.behind _ (.cells #[.int .i64 sx, .int .i64 sy] 28)) (Kp.two (Kp.behind _ (.cells #[.int .i64 sx, .int .i64 sy] 28)) (Kp.two (Kp.behind _ (.cells #[.int .i64 sx, .int .i64 sy] 28)) (Kp.two (Kp.behind _ (.cells #[.int .i64 sx, .int .i64 sy] 28)) (fun h => Kp.add0 h (w7.heap.size + 1) (by simp) (.int .i64 sx) (.int .i64 sy) 28)))))))))) M7.out)
      clear M7
      have u7 := N7.out
      have x1 := SX.out.symm
      have x2 := SY.out.symm
      go_wp2_with fail
      clear x1 x2
      refine (C6.out _).mono ?_
      rintro e w8 ⟨rfl, hb8⟩
      have K8 := Lib.hid ((Kp.two hb8 (Kp.two hb8 (Kp.two hb8 (Kp.two hb8 (Kp.two hb8 (Kp.two hb8 (Kp.two hb8 (Kp.two hb8 (Kp.two hb8 (Kp.two hb8 (Kp.ends hb8))))))))))) N7.out)
      clear hb8 z7 y7 u7 N7
      have z8 := K8.out
      go_wp2_with fail
      refine (C7.out _).mono ?_
      rintro e w9 ⟨rfl, hb9⟩
      have K9 := Lib.hid ((Kp.two hb9 (Kp.two hb9 (Kp.two hb9 (Kp.two hb9 (Kp.two hb9 (Kp.two hb9 (Kp.two hb9 (Kp.two hb9 (Kp.two hb9 (Kp.two hb9 (Kp.ends hb9))))))))))) K8.out)
      clear hb9 z8 K8
      have z9 := K9.out
      go_wp2_with fail
      go_ret
      exact ⟨rfl, K9.out.2.2.2.2.2.2.2.2.2.2.2.2.2.2.2.2.2.2.2.2.2⟩
  · have L0 := (fun h => Kp.ad50 h w.heap.size rfl (.int .i64 a) (.int .i64 b) (.int .i64 c) (.int .i64 d) (.slice A n k) 26) ⟨Nat.le_refl _, Below.refl w.heap.size w⟩
    have L1 := (Kp.two (Kp.behind _ (.cells #[.int .i64 p.1, .int .i64 p.2] 28)) (Kp.two (Kp.behind _ (.cells #[.int .i64 p.1, .int .i64 p.2] 28)) (Kp.one (Kp.behind _ (.cells #[.int .i64 p.1, .int .i64 p.2] 28)) (fun h => Kp.add0 h (w.heap.size + 1) (by simp) (.int .i64 p.1) (.int .i64 p.2) 28)))) L0
    have L2 := (Kp.two (Kp.behind _ (.cells #[.int .i64 v.1, .int .i64 v.2] 28)) (Kp.two (Kp.behind _ (.cells #[.int .i64 v.1, .int .i64 v.2] 28)) (Kp.two (Kp.behind _ (.cells #[.int .i64 v.1, .int .i64 v.2] 28)) (Kp.one (Kp.behind _ (.cells #[.int .i64 v.1, .int .i64 v.2] 28)) (fun h => Kp.add0 h (w.heap.size + 1 + 1) (by simp) (.int .i64 v.1) (.int .i64 v.2) 28))))) L1
    have L := Lib.hid L2
    clear L0 L1 L2
    have z := L.out
    go_enter Try.func5, Try.ntmps5
    go_wp2_with fail
    refine (up_any _).mono ?_
    rintro e w1 ⟨rfl, hb1⟩
    have K1 := Lib.hid ((Kp.two hb1 (Kp.two hb1 (Kp.two hb1 (Kp.two hb1 (Kp.one hb1 (Kp.ends hb1)))))) L.out)
    clear hb1 z L
    have z1 := K1.out
    go_wp2_with fail
    refine (D1.out _).mono ?_
    rintro e w2 ⟨rfl, hb2⟩
    have K2 := Lib.hid ((Kp.two hb2 (Kp.two hb2 (Kp.two hb2 (Kp.two hb2 (Kp.one hb2 (Kp.ends hb2)))))) K1.out)
    clear hb2 z1 K1
    have z2 := K2.out
    go_wp2_with fail
    refine (C1.out _ K2.out.2.2.2.2.2.2.2.2.2.2).mono ?_
    rintro e w3 ⟨rfl, hb3⟩
    have K3 := Lib.hid ((Kp.two hb3 (Kp.two hb3 (Kp.two hb3 (Kp.two hb3 (Kp.one hb3 (Kp.ends hb3)))))) K2.out)
    clear hb3 z2 K2
    have z3 := K3.out
    go_wp2_with fail
    refine (C2.out _ K3.out.2.2.2.2.2.2.2.2.2.2).mono ?_
    rintro e w4 ⟨rfl, hb4⟩
    have K4 := Lib.hid ((Kp.two hb4 (Kp.two hb4 (Kp.two hb4 (Kp.two hb4 (Kp.one hb4 (Kp.ends hb4)))))) K3.out)
    clear hb4 z3 K3
    have z4 := K4.out
    have M4 := Lib.hid ((Kp.two (Kp.behind _ (.cells #[.int .i64 r.x1, .int .i64 r.y1, .int .i64 r.x2, .int .i64 r.y2] 23)) (Kp.two (Kp.behind _ (.cells #[.int .i64 r.x1, .int .i64 r.y1, .int .i64 r.x2, .int .i64 r.y2] 23)) (Kp.two (Kp.behind _ (.cells #[.int .i64 r.x1, .int .i64 r.y1, .int .i64 r.x2, .int .i64 r.y2] 23)) (Kp.two (Kp.behind _ (.cells #[.int .i64 r.x1, .int .i64 r.y1, .int .i64 r.x2, .int .i64 r.y2] 23)) (Kp.one (Kp.behind _ (.cells #[.int .i64 r.x1, .int .i64 r.y1, .int .i64 r.x2, .int .i64 r.y2] 23)) (fun h => Kp.adq0 h w4.heap.size rfl (.int .i64 r.x1) (.int .i64 r.y1) (.int .i64 r.x2) (.int .i64 r.y2) 23)))))) K4.out)
    have y4 := K4.out
    clear K4 z4
    have z4 := M4.out
    go_wp2_with fail
    refine (C5.out _).mono ?_
    rintro e w5 ⟨rfl, hb5⟩
    have K5 := Lib.hid ((Kp.two hb5 (Kp.two hb5 (Kp.two hb5 (Kp.two hb5 (Kp.two hb5 (Kp.two hb5 (Kp.one hb5 (Kp.ends hb5)))))))) M4.out)
    clear hb5 z4 y4 M4
    have z5 := K5.out
    go_wp2_with fail
    refine (C3.out _ K5.out.2.2.2.2.2.2.2.2.2.2.2.2.2.2).mono ?_
    rintro e w6 ⟨rfl, hb6⟩
    have K6 := Lib.hid ((Kp.two hb6 (Kp.two hb6 (Kp.two hb6 (Kp.two hb6 (Kp.two hb6 (Kp.two hb6 (Kp.one hb6 (Kp.ends hb6)))))))) K5.out)
    clear hb6 z5 K5
    have z6 := K6.out
    go_wp2_with fail
    refine (C4.out _ K6.out.2.2.2.2.2.2.2.2.2.2.2.2.2.2).mono ?_
    rintro e w7 ⟨hb7, ⟨hm, B, q, rfl, hP, _⟩ | ⟨hm, rfl⟩⟩
    · cases mp
      · have HP_0 := Lib.hid hP
        clear hP
        have K7 := Lib.hid ((Kp.two hb7 (Kp.two hb7 (Kp.two hb7 (Kp.two hb7 (Kp.two hb7 (Kp.two hb7 (Kp.one hb7 (Kp.ends hb7)))))))) K6.out)
        clear hb7 z6 K6
        have z7 := K7.out
        have M7 := Lib.hid ((Kp.two (Kp.behind _ (.cells #[.int .i64 (mvN l a v.1), .int .i64 (mvN l b v.2), .int .i64 (mvN l c v.1), .int .i64 (mvN l d v.2), .slice B (moveL l v).length q] 26)) (Kp.two (Kp.behind _ (.cells #[.int .i64 (mvN l a v.1), .int .i64 (mvN l b v.2), .int .i64 (mvN l c v.1), .int .i64 (mvN l d v.2), .slice B (moveL l v).length q] 26)) (Kp.two (Kp.behind _ (.cells #[.int .i64 (mvN l a v.1), .int .i64 (mvN l b v.2), .int .i64 (mvN l c v.1), .int .i64 (mvN l d v.2), .slice B (moveL l v).length q] 26)) (Kp.two (Kp.behind _ (.cells #[.int .i64 (mvN l a v.1), .int .i64 (mvN l b v.2), .int .i64 (mvN l c v.1), .int .i64 (mvN l d v.2), .slice B (moveL l v).length q] 26)) (Kp.two (Kp.behind _ (.cells #[.int .i64 (mvN l a v.1), .int .i64 (mvN l b v.2), .int .i64 (mvN l c v.1), .int .i64 (mvN l d v.2), .slice B (moveL l v).length q] 26)) (Kp.two (Kp.behind _ (.cells #[.int .i64 (mvN l a v.1), .int .i64 (mvN l b v.2), .int .i64 (mvN l c v.1), .int .i64 (mvN l d v.2), .slice B (moveL l v).length q] 26)) (Kp.one (Kp.behind _ (.cells #[.int .i64 (mvN l a v.1), .int .i64 (mvN l b v.2), .int .i64 (mvN l c v.1), .int .i64 (mvN l d v.2), .slice B (moveL l v).length q] 26)) (fun h => Kp.ad50 h w7.heap.size rfl (.int .i64 (mvN l a v.1)) (.int .i64 (mvN l b v.2)) (.int .i64 (mvN l c v.1)) (.int .i64 (mvN l d v.2)) (.slice B (moveL l v).length q) 26)))))))) K7.out)
        have y7 := K7.out
        have HP_1 := Lib.hid (pts_go HP_0.out (Kp.behind w7 (.cells #[.int .i64 (mvN l a v.1), .int .i64 (mvN l b v.2), .int .i64 (mvN l c v.1), .int .i64 (mvN l d v.2), .slice B (moveL l v).length q] 26)))
        clear HP_0
        clear K7 z7
        have z7 := M7.out
        have N7 := Lib.hid ((Kp.two (Kp.behind _ (.cells #[.int .i64 sx, .int .i64 sy] 28)) (Kp.two (Kp.behind _ (.cells #[.int .i64 sx, .int .i64 sy] 28)) (Kp.two (Kp.behind _ (.cells #[.int .i64 sx, .int .i64 sy] 28)) (Kp.two (Kp.behind _ (.cells #[.int .i64 sx, .int .i64 sy] 28)) (Kp.two (Kp.behind _ (.cells #[.int .i64 sx, .int .i64 sy] 28)) (Kp.two (Kp.behind _ (.cells #[.int .i64 sx, .int .i64 sy] 28)) (Kp.two (Kp.behind _ (.cells #[.int .i64 sx, .int .i64 sy] 28)) (Kp.two (Kp.behind _ (.cells #[.int .i64 sx, .int .i64 sy] 28)) (Kp.two (Kp.behind _ (.cells #[.int .i64 sx, .int .i64 sy] 28)) (fun h => Kp.add0 h (w7.heap.size + 1) (by simp) (.int .i64 sx) (.int .i64 sy) 28)))))))))) M7.out)
        have HP_2 := Lib.hid (pts_go HP_1.out (Kp.behind (w7.alloc (.cells #[.int .i64 (mvN l a v.1), .int .i64 (mvN l b v.2), .int .i64 (mvN l c v.1), .int .i64 (mvN l d v.2), .slice B (moveL l v).length q] 26)) (.cells #[.int .i64 sx, .int .i64 sy] 28)))
        clear HP_1
        clear M7
        have u7 := N7.out
        have x1 := SX.out.symm
        have x2 := SY.out.symm
        go_wp2_with fail
        clear x1 x2
        refine (C6.out _).mono ?_
        rintro e w8 ⟨rfl, hb8⟩
        have HP_8 := Lib.hid (pts_go HP_2.out hb8)
        have K8 := Lib.hid ((Kp.two hb8 (Kp.two hb8 (Kp.two hb8 (Kp.two hb8 (Kp.two hb8 (Kp.two hb8 (Kp.two hb8 (Kp.two hb8 (Kp.two hb8 (Kp.two hb8 (Kp.ends hb8))))))))))) N7.out)
        clear hb8 z7 y7 u7 N7 HP_2
        have z8 := K8.out
        go_wp2_with fail
        refine (C7.out _).mono ?_
        rintro e w9 ⟨rfl, hb9⟩
        have HP_9 := Lib.hid (pts_go HP_8.out hb9)
        have K9 := Lib.hid ((Kp.two hb9 (Kp.two hb9 (Kp.two hb9 (Kp.two hb9 (Kp.two hb9 (Kp.two hb9 (Kp.two hb9 (Kp.two hb9 (Kp.two hb9 (Kp.two hb9 (Kp.ends hb9))))))))))) K8.out)
        clear hb9 z8 K8 HP_8
        have z9 := K9.out
        go_wp2_with fail
        go_ret
        exact ⟨rfl, K9.out.2.2.2.2.2.2.2.2.2.2.2.2.2.2.2.2.2.2.2.2.2⟩
      · cases mq
        · have HP_0 := Lib.hid hP
          clear hP
          have K7 := Lib.hid ((Kp.two hb7 (Kp.two hb7 (Kp.two hb7 (Kp.two hb7 (Kp.two hb7 (Kp.two hb7 (Kp.one hb7 (Kp.ends hb7)))))))) K6.out)
          clear hb7 z6 K6
          have z7 := K7.out
          have M7 := Lib.hid ((Kp.two (Kp.behind _ (.cells #[.int .i64 (mvN l a v.1), .int .i64 (mvN l b v.2), .int .i64 (mvN l c v.1), .int .i64 (mvN l d v.2), .slice B (moveL l v).length q] 26)) (Kp.two (Kp.behind _ (.cells #[.int .i64 (mvN l a v.1), .int .i64 (mvN l b v.2), .int .i64 (mvN l c v.1), .int .i64 (mvN l d v.2), .slice B (moveL l v).length q] 26)) (Kp.two (Kp.behind _ (.cells #[.int .i64 (mvN l a v.1), .int .i64 (mvN l b v.2), .int .i64 (mvN l c v.1), .int .i64 (mvN l d v.2), .slice B (moveL l v).length q] 26)) (Kp.two (Kp.behind _ (.cells #[.int .i64 (mvN l a v.1), .int .i64 (mvN l b v.2), .int .i64 (mvN l c v.1), .int .i64 (mvN l d v.2), .slice B (moveL l v).length q] 26)) (Kp.two (Kp.behind _ (.cells #[.int .i64 (mvN l a v.1), .int .i64 (mvN l b v.2), .int .i64 (mvN l c v.1), .int .i64 (mvN l d v.2), .slice B (moveL l v).length q] 26)) (Kp.two (Kp.behind _ (.cells #[.int .i64 (mvN l a v.1), .int .i64 (mvN l b v.2), .int .i64 (mvN l c v.1), .int .i64 (mvN l d v.2), .slice B (moveL l v).length q] 26)) (Kp.one (Kp.behind _ (.cells #[.int .i64 (mvN l a v.1), .int .i64 (mvN l b v.2), .int .i64 (mvN l c v.1), .int .i64 (mvN l d v.2), .slice B (moveL l v).length q] 26)) (fun h => Kp.ad50 h w7.heap.size rfl (.int .i64 (mvN l a v.1)) (.int .i64 (mvN l b v.2)) (.int .i64 (mvN l c v.1)) (.int .i64 (mvN l d v.2)) (.slice B (moveL l v).length q) 26)))))))) K7.out)
          have y7 := K7.out
          have HP_1 := Lib.hid (pts_go HP_0.out (Kp.behind w7 (.cells #[.int .i64 (mvN l a v.1), .int .i64 (mvN l b v.2), .int .i64 (mvN l c v.1), .int .i64 (mvN l d v.2), .slice B (moveL l v).length q] 26)))
          clear HP_0
          clear K7 z7
          have z7 := M7.out
          have N7 := Lib.hid ((Kp.two (Kp.behind _ (.cells #[.int .i64 sx, .int .i64 sy] 28)) (Kp.two (Kp.behind _ (.cells #[.int .i64 sx, .int .i64 sy] 28)) (Kp.two (Kp.behind _ (.cells #[.int .i64 sx, .int .i64 sy] 28)) (Kp.two (Kp.behind _ (.cells #[.int .i64 sx, .int .i64 sy] 28)) (Kp.two (Kp.behind _ (.cells #[.int .i64 sx, .int .i64 sy] 28)) (Kp.two (Kp.behind _ (.cells #[.int .i64 sx, .int .i64 sy] 28)) (Kp.two (Kp.behind _ (.cells #[.int .i64 sx, .int .i64 sy] 28)) (Kp.two (Kp.behind _ (.cells #[.int .i64 sx, .int .i64 sy] 28)) (Kp.two (Kp.behind _ (.cells #[.int .i64 sx, .int .i64 sy] 28)) (fun h => Kp.add0 h (w7.heap.size + 1) (by simp) (.int .i64 sx) (.int .i64 sy) 28)))))))))) M7.out)
          have HP_2 := Lib.hid (pts_go HP_1.out (Kp.behind (w7.alloc (.cells #[.int .i64 (mvN l a v.1), .int .i64 (mvN l b v.2), .int .i64 (mvN l c v.1), .int .i64 (mvN l d v.2), .slice B (moveL l v).length q] 26)) (.cells #[.int .i64 sx, .int .i64 sy] 28)))
          clear HP_1
          clear M7
          have u7 := N7.out
          have x1 := SX.out.symm
          have x2 := SY.out.symm
          go_wp2_with fail
          clear x1 x2
          refine (C6.out _).mono ?_
          rintro e w8 ⟨rfl, hb8⟩
          have HP_8 := Lib.hid (pts_go HP_2.out hb8)
          have K8 := Lib.hid ((Kp.two hb8 (Kp.two hb8 (Kp.two hb8 (Kp.two hb8 (Kp.two hb8 (Kp.two hb8 (Kp.two hb8 (Kp.two hb8 (Kp.two hb8 (Kp.two hb8 (Kp.ends hb8))))))))))) N7.out)
          clear hb8 z7 y7 u7 N7 HP_2
          have z8 := K8.out
          go_wp2_with fail
          refine (C7.out _).mono ?_
          rintro e w9 ⟨rfl, hb9⟩
          have HP_9 := Lib.hid (pts_go HP_8.out hb9)
          have K9 := Lib.hid ((Kp.two hb9 (Kp.two hb9 (Kp.two hb9 (Kp.two hb9 (Kp.two hb9 (Kp.two hb9 (Kp.two hb9 (Kp.two hb9 (Kp.two hb9 (Kp.two hb9 (Kp.ends hb9))))))))))) K8.out)
          clear hb9 z8 K8 HP_8
          have z9 := K9.out
          go_wp2_with fail
          go_ret
          exact ⟨rfl, K9.out.2.2.2.2.2.2.2.2.2.2.2.2.2.2.2.2.2.2.2.2.2⟩
        · have hv : mayB v.1 v.2 = true := mvB_v hm
          obtain ⟨v1, v2⟩ := mayB_bd hv
          obtain ⟨p1, p2⟩ := mayB_bd EMP.out.symm
          have ESX : sx = p.1 + v.1 := by rw [SX.out]; exact wrap_two p1 v1
          have ESY : sy = p.2 + v.2 := by rw [SY.out]; exact wrap_two p2 v2
          obtain ⟨o1, o2, o3, o4⟩ := RO.out
          have X1 := Lib.hid (wrap_two o1 v1)
          have X2 := Lib.hid (wrap_two o2 v2)
          have X3 := Lib.hid (wrap_two o3 v1)
          have X4 := Lib.hid (wrap_two o4 v2)
          have HGm := Lib.hid (HGM.out hm)
          have HIm := Lib.hid (show rgI (mvN l a v.1) (mvN l b v.2) (mvN l c v.1) (mvN l d v.2) (moveL l v) (sx, sy) = true by
            have := HI.out hm EMP.out.symm (by unfold pmay addP; dsimp only; rw [← ESX, ← ESY]; exact EMQ.out.symm)
            unfold addP at this
            rw [← ESX, ← ESY] at this
            exact this)
          have C8 : Hid (∀ W, PtsAt W W.heap.size B (moveL l v) → Calls Try.prog 9 #[.agg #[.int .i64 (mvN l a v.1), .int .i64 (mvN l b v.2), .int .i64 (mvN l c v.1), .int .i64 (mvN l d v.2), .slice B (moveL l v).length q]] W fun e w' => e = .returned (.tuple #[.agg #[.int .i64 (r.x1 + v.1), .int .i64 (r.y1 + v.2), .int .i64 (r.x2 + v.1), .int .i64 (r.y2 + v.2)], .nilIface]) ∧ Below W.heap.size W w') := Lib.hid fun W hP => by
            have := box_any (mvN l a v.1) (mvN l b v.2) (mvN l c v.1) (mvN l d v.2) (moveL l v) B q W hP HN.out HGm.out
            rw [HX.out hm] at this
            exact this
          have C9 : Hid (∀ W, PtsAt W W.heap.size B (moveL l v) → Calls Try.prog 13 #[.agg #[.int .i64 (mvN l a v.1), .int .i64 (mvN l b v.2), .int .i64 (mvN l c v.1), .int .i64 (mvN l d v.2), .slice B (moveL l v).length q], .agg #[.int .i64 sx, .int .i64 sy]] W fun e w' => e = .returned (.bool true) ∧ Below W.heap.size W w') := Lib.hid fun W hP => by
            have := rin_any (mvN l a v.1) (mvN l b v.2) (mvN l c v.1) (mvN l d v.2) (moveL l v) B q (sx, sy) W hP HN.out
            rw [HIm.out] at this
            exact this
          clear hv v1 v2 p1 p2 ESX ESY o1 o2 o3 o4
          have HP_0 := Lib.hid hP
          clear hP
          have K7 := Lib.hid ((Kp.two hb7 (Kp.two hb7 (Kp.two hb7 (Kp.two hb7 (Kp.two hb7 (Kp.two hb7 (Kp.one hb7 (Kp.ends hb7)))))))) K6.out)
          clear hb7 z6 K6
          have z7 := K7.out
          have M7 := Lib.hid ((Kp.two (Kp.behind _ (.cells #[.int .i64 (mvN l a v.1), .int .i64 (mvN l b v.2), .int .i64 (mvN l c v.1), .int .i64 (mvN l d v.2), .slice B (moveL l v).length q] 26)) (Kp.two (Kp.behind _ (.cells #[.int .i64 (mvN l a v.1), .int .i64 (mvN l b v.2), .int .i64 (mvN l c v.1), .int .i64 (mvN l d v.2), .slice B (moveL l v).length q] 26)) (Kp.two (Kp.behind _ (.cells #[.int .i64 (mvN l a v.1), .int .i64 (mvN l b v.2), .int .i64 (mvN l c v.1), .int .i64 (mvN l d v.2), .slice B (moveL l v).length q] 26)) (Kp.two (Kp.behind _ (.cells #[.int .i64 (mvN l a v.1), .int .i64 (mvN l b v.2), .int .i64 (mvN l c v.1), .int .i64 (mvN l d v.2), .slice B (moveL l v).length q] 26)) (Kp.two (Kp.behind _ (.cells #[.int .i64 (mvN l a v.1), .int .i64 (mvN l b v.2), .int .i64 (mvN l c v.1), .int .i64 (mvN l d v.2), .slice B (moveL l v).length q] 26)) (Kp.two (Kp.behind _ (.cells #[.int .i64 (mvN l a v.1), .int .i64 (mvN l b v.2), .int .i64 (mvN l c v.1), .int .i64 (mvN l d v.2), .slice B (moveL l v).length q] 26)) (Kp.one (Kp.behind _ (.cells #[.int .i64 (mvN l a v.1), .int .i64 (mvN l b v.2), .int .i64 (mvN l c v.1), .int .i64 (mvN l d v.2), .slice B (moveL l v).length q] 26)) (fun h => Kp.ad50 h w7.heap.size rfl (.int .i64 (mvN l a v.1)) (.int .i64 (mvN l b v.2)) (.int .i64 (mvN l c v.1)) (.int .i64 (mvN l d v.2)) (.slice B (moveL l v).length q) 26)))))))) K7.out)
          have y7 := K7.out
          have HP_1 := Lib.hid (pts_go HP_0.out (Kp.behind w7 (.cells #[.int .i64 (mvN l a v.1), .int .i64 (mvN l b v.2), .int .i64 (mvN l c v.1), .int .i64 (mvN l d v.2), .slice B (moveL l v).length q] 26)))
          clear HP_0
          clear K7 z7
          have z7 := M7.out
          have N7 := Lib.hid ((Kp.two (Kp.behind _ (.cells #[.int .i64 sx, .int .i64 sy] 28)) (Kp.two (Kp.behind _ (.cells #[.int .i64 sx, .int .i64 sy] 28)) (Kp.two (Kp.behind _ (.cells #[.int .i64 sx, .int .i64 sy] 28)) (Kp.two (Kp.behind _ (.cells #[.int .i64 sx, .int .i64 sy] 28)) (Kp.two (Kp.behind _ (.cells #[.int .i64 sx, .int .i64 sy] 28)) (Kp.two (Kp.behind _ (.cells #[.int .i64 sx, .int .i64 sy] 28)) (Kp.two (Kp.behind _ (.cells #[.int .i64 sx, .int .i64 sy] 28)) (Kp.two (Kp.behind _ (.cells #[.int .i64 sx, .int .i64 sy] 28)) (Kp.two (Kp.behind _ (.cells #[.int .i64 sx, .int .i64 sy] 28)) (fun h => Kp.add0 h (w7.heap.size + 1) (by simp) (.int .i64 sx) (.int .i64 sy) 28)))))))))) M7.out)
          have HP_2 := Lib.hid (pts_go HP_1.out (Kp.behind (w7.alloc (.cells #[.int .i64 (mvN l a v.1), .int .i64 (mvN l b v.2), .int .i64 (mvN l c v.1), .int .i64 (mvN l d v.2), .slice B (moveL l v).length q] 26)) (.cells #[.int .i64 sx, .int .i64 sy] 28)))
          clear HP_1
          clear M7
          have u7 := N7.out
          have x1 := SX.out.symm
          have x2 := SY.out.symm
          go_wp2_with fail
          clear x1 x2
          refine (C6.out _).mono ?_
          rintro e w8 ⟨rfl, hb8⟩
          have HP_8 := Lib.hid (pts_go HP_2.out hb8)
          have K8 := Lib.hid ((Kp.two hb8 (Kp.two hb8 (Kp.two hb8 (Kp.two hb8 (Kp.two hb8 (Kp.two hb8 (Kp.two hb8 (Kp.two hb8 (Kp.two hb8 (Kp.two hb8 (Kp.ends hb8))))))))))) N7.out)
          clear hb8 z7 y7 u7 N7 HP_2
          have z8 := K8.out
          go_wp2_with fail
          refine (C7.out _).mono ?_
          rintro e w9 ⟨rfl, hb9⟩
          have HP_9 := Lib.hid (pts_go HP_8.out hb9)
          have K9 := Lib.hid ((Kp.two hb9 (Kp.two hb9 (Kp.two hb9 (Kp.two hb9 (Kp.two hb9 (Kp.two hb9 (Kp.two hb9 (Kp.two hb9 (Kp.two hb9 (Kp.two hb9 (Kp.ends hb9))))))))))) K8.out)
          clear hb9 z8 K8 HP_8
          have z9 := K9.out
          go_wp2_with fail
          refine (C8.out _ HP_9.out).mono ?_
          rintro e w10 ⟨rfl, hb10⟩
          have HP_10 := Lib.hid (pts_go HP_9.out hb10)
          have K10 := Lib.hid ((Kp.two hb10 (Kp.two hb10 (Kp.two hb10 (Kp.two hb10 (Kp.two hb10 (Kp.two hb10 (Kp.two hb10 (Kp.two hb10 (Kp.two hb10 (Kp.two hb10 (Kp.ends hb10))))))))))) K9.out)
          clear hb10 z9 K9 HP_9
          have z10 := K10.out
          have M10 := Lib.hid ((Kp.two (Kp.behind _ (.cells #[.int .i64 (r.x1 + v.1), .int .i64 (r.y1 + v.2), .int .i64 (r.x2 + v.1), .int .i64 (r.y2 + v.2)] 23)) (Kp.two (Kp.behind _ (.cells #[.int .i64 (r.x1 + v.1), .int .i64 (r.y1 + v.2), .int .i64 (r.x2 + v.1), .int .i64 (r.y2 + v.2)] 23)) (Kp.two (Kp.behind _ (.cells #[.int .i64 (r.x1 + v.1), .int .i64 (r.y1 + v.2), .int .i64 (r.x2 + v.1), .int .i64 (r.y2 + v.2)] 23)) (Kp.two (Kp.behind _ (.cells #[.int .i64 (r.x1 + v.1), .int .i64 (r.y1 + v.2), .int .i64 (r.x2 + v.1), .int .i64 (r.y2 + v.2)] 23)) (Kp.two (Kp.behind _ (.cells #[.int .i64 (r.x1 + v.1), .int .i64 (r.y1 + v.2), .int .i64 (r.x2 + v.1), .int .i64 (r.y2 + v.2)] 23)) (Kp.two (Kp.behind _ (.cells #[.int .i64 (r.x1 + v.1), .int .i64 (r.y1 + v.2), .int .i64 (r.x2 + v.1), .int .i64 (r.y2 + v.2)] 23)) (Kp.two (Kp.behind _ (.cells #[.int .i64 (r.x1 + v.1), .int .i64 (r.y1 + v.2), .int .i64 (r.x2 + v.1), .int .i64 (r.y2 + v.2)] 23)) (Kp.two (Kp.behind _ (.cells #[.int .i64 (r.x1 + v.1), .int .i64 (r.y1 + v.2), .int .i64 (r.x2 + v.1), .int .i64 (r.y2 + v.2)] 23)) (Kp.two (Kp.behind _ (.cells #[.int .i64 (r.x1 + v.1), .int .i64 (r.y1 + v.2), .int .i64 (r.x2 + v.1), .int .i64 (r.y2 + v.2)] 23)) (Kp.two (Kp.behind _ (.cells #[.int .i64 (r.x1 + v.1), .int .i64 (r.y1 + v.2), .int .i64 (r.x2 + v.1), .int .i64 (r.y2 + v.2)] 23)) (fun h => Kp.adq0 h w10.heap.size rfl (.int .i64 (r.x1 + v.1)) (.int .i64 (r.y1 + v.2)) (.int .i64 (r.x2 + v.1)) (.int .i64 (r.y2 + v.2)) 23))))))))))) K10.out)
          have y10 := K10.out
          have HPx := Lib.hid (pts_go HP_10.out (Kp.behind w10 (.cells #[.int .i64 (r.x1 + v.1), .int .i64 (r.y1 + v.2), .int .i64 (r.x2 + v.1), .int .i64 (r.y2 + v.2)] 23)))
          clear HP_10 K10 z10
          have z10 := M10.out
          have x1 := X1.out
          have x2 := X2.out
          have x3 := X3.out
          have x4 := X4.out
          have q5 : ∀ W, (binOp .eql 23 (.agg #[.int .i64 (r.x1 + v.1), .int .i64 (r.y1 + v.2), .int .i64 (r.x2 + v.1), .int .i64 (r.y2 + v.2)]) (.agg #[.int .i64 (r.x1 + v.1), .int .i64 (r.y1 + v.2), .int .i64 (r.x2 + v.1), .int .i64 (r.y2 + v.2)])).run Try.prog W = .ok (.bool true) W := fun W => by rw [eql_rect, eq4_self]
          go_wp2_with fail
          have HK := M10.out
          clear M10 z10 y10
          refine wp_region_held_drew (S := (fun W => (PtsAt W W.heap.size B (moveL l v)) ∧ W.cell? ⟨w.heap.size, 0, none⟩ = some (.int .i64 a) ∧ W.cell? ⟨w.heap.size, 1, none⟩ = some (.int .i64 b) ∧ W.cell? ⟨w.heap.size, 2, none⟩ = some (.int .i64 c) ∧ W.cell? ⟨w.heap.size, 3, none⟩ = some (.int .i64 d) ∧ W.cell? ⟨w.heap.size, 4, none⟩ = some (.slice A n k) ∧ W.cell? ⟨w.heap.size + 1, 0, none⟩ = some (.int .i64 p.1) ∧ W.cell? ⟨w.heap.size + 1, 1, none⟩ = some (.int .i64 p.2) ∧ W.cell? ⟨w.heap.size + 1 + 1, 0, none⟩ = some (.int .i64 v.1) ∧ W.cell? ⟨w.heap.size + 1 + 1, 1, none⟩ = some (.int .i64 v.2) ∧ W.cell? ⟨w4.heap.size, 0, none⟩ = some (.int .i64 r.x1) ∧ W.cell? ⟨w4.heap.size, 1, none⟩ = some (.int .i64 r.y1) ∧ W.cell? ⟨w4.heap.size, 2, none⟩ = some (.int .i64 r.x2) ∧ W.cell? ⟨w4.heap.size, 3, none⟩ = some (.int .i64 r.y2) ∧ W.cell? ⟨w7.heap.size, 0, none⟩ = some (.int .i64 (mvN l a v.1)) ∧ W.cell? ⟨w7.heap.size, 1, none⟩ = some (.int .i64 (mvN l b v.2)) ∧ W.cell? ⟨w7.heap.size, 2, none⟩ = some (.int .i64 (mvN l c v.1)) ∧ W.cell? ⟨w7.heap.size, 3, none⟩ = some (.int .i64 (mvN l d v.2)) ∧ W.cell? ⟨w7.heap.size, 4, none⟩ = some (.slice B (moveL l v).length q) ∧ W.cell? ⟨w7.heap.size + 1, 0, none⟩ = some (.int .i64 sx) ∧ W.cell? ⟨w7.heap.size + 1, 1, none⟩ = some (.int .i64 sy) ∧ W.cell? ⟨w10.heap.size, 0, none⟩ = some (.int .i64 (r.x1 + v.1)) ∧ W.cell? ⟨w10.heap.size, 1, none⟩ = some (.int .i64 (r.y1 + v.2)) ∧ W.cell? ⟨w10.heap.size, 2, none⟩ = some (.int .i64 (r.x2 + v.1)) ∧ W.cell? ⟨w10.heap.size, 3, none⟩ = some (.int .i64 (r.y2 + v.2)) ∧ w.heap.size ≤ W.heap.size ∧ Below w.heap.size w W)) (by kernel_rfl) (by exact ⟨HPx.out, HK.1, HK.2.1, HK.2.2.1, HK.2.2.2.1, HK.2.2.2.2.1, HK.2.2.2.2.2.1, HK.2.2.2.2.2.2.1, HK.2.2.2.2.2.2.2.1, HK.2.2.2.2.2.2.2.2.1, HK.2.2.2.2.2.2.2.2.2.1, HK.2.2.2.2.2.2.2.2.2.2.1, HK.2.2.2.2.2.2.2.2.2.2.2.1, HK.2.2.2.2.2.2.2.2.2.2.2.2.1, HK.2.2.2.2.2.2.2.2.2.2.2.2.2.1, HK.2.2.2.2.2.2.2.2.2.2.2.2.2.2.1, HK.2.2.2.2.2.2.2.2.2.2.2.2.2.2.2.1, HK.2.2.2.2.2.2.2.2.2.2.2.2.2.2.2.2.1, HK.2.2.2.2.2.2.2.2.2.2.2.2.2.2.2.2.2.1, HK.2.2.2.2.2.2.2.2.2.2.2.2.2.2.2.2.2.2.1, HK.2.2.2.2.2.2.2.2.2.2.2.2.2.2.2.2.2.2.2.1, HK.2.2.2.2.2.2.2.2.2.2.2.2.2.2.2.2.2.2.2.2.1, HK.2.2.2.2.2.2.2.2.2.2.2.2.2.2.2.2.2.2.2.2.2.1, HK.2.2.2.2.2.2.2.2.2.2.2.2.2.2.2.2.2.2.2.2.2.2.1, HK.2.2.2.2.2.2.2.2.2.2.2.2.2.2.2.2.2.2.2.2.2.2.2.1, HK.2.2.2.2.2.2.2.2.2.2.2.2.2.2.2.2.2.2.2.2.2.2.2.2.1, HK.2.2.2.2.2.2.2.2.2.2.2.2.2.2.2.2.2.2.2.2.2.2.2.2.2.drew⟩) (fun hHeld => ?_)
          refine wpAnyH_take (i := 0) (v := ?vKt0) rfl (by kernel_rfl) (by kernel_rfl) (by kernel_rfl) (fun _ _ _ h => h) (Or.inl ⟨by rfl, ?yKt0⟩) hHeld ?rKt0
          case yKt0 => (intro W hSw; simp only [List.getElem_toArray, List.getElem_cons_zero]; go_simp; try (with_reducible rfl))
          simp only [List.getElem_toArray, List.getElem_cons_zero, Act.put, List.setIfInBounds_toArray, List.set_cons_zero, List.set_cons_succ]
          refine wpAnyH_take (i := 1) (v := ?vKt1) rfl (by kernel_rfl) (by kernel_rfl) (by kernel_rfl) (fun _ _ _ h => h) (Or.inl ⟨by rfl, ?yKt1⟩) hHeld ?rKt1
          case yKt1 => (intro W hSw; simp only [List.getElem_toArray, List.getElem_cons_succ, List.getElem_cons_zero]; go_simp; try (with_reducible rfl))
          simp only [List.getElem_toArray, List.getElem_cons_succ, List.getElem_cons_zero, Act.put, List.setIfInBounds_toArray, List.set_cons_zero, List.set_cons_succ]
          refine wpAnyH_take (i := 2) (v := ?vKt2) rfl (by kernel_rfl) (by kernel_rfl) (by kernel_rfl) (fun _ _ _ h => h) (Or.inl ⟨by rfl, ?yKt2⟩) hHeld ?rKt2
          case yKt2 => (intro W hSw; simp only [List.getElem_toArray, List.getElem_cons_succ, List.getElem_cons_zero]; go_simp; try (with_reducible rfl))
          simp only [List.getElem_toArray, List.getElem_cons_succ, List.getElem_cons_zero, Act.put, List.setIfInBounds_toArray, List.set_cons_zero, List.set_cons_succ]
          refine wpAnyH_take (i := 3) (v := ?vKt3) rfl (by kernel_rfl) (by kernel_rfl) (by kernel_rfl) (fun _ _ _ h => h) (Or.inl ⟨by rfl, ?yKt3⟩) hHeld ?rKt3
          case yKt3 => (intro W hSw; simp only [List.getElem_toArray, List.getElem_cons_succ, List.getElem_cons_zero]; go_simp; try (with_reducible rfl))
          simp only [List.getElem_toArray, List.getElem_cons_succ, List.getElem_cons_zero, Act.put, List.setIfInBounds_toArray, List.set_cons_zero, List.set_cons_succ]
          refine wpAnyH_take (i := 4) (v := ?vKt4) rfl (by kernel_rfl) (by kernel_rfl) (by kernel_rfl) (fun _ _ _ h => h) (Or.inl ⟨by rfl, ?yKt4⟩) hHeld ?rKt4
          case yKt4 => (intro W hSw; simp only [List.getElem_toArray, List.getElem_cons_succ, List.getElem_cons_zero]; go_simp; try (with_reducible rfl))
          simp only [List.getElem_toArray, List.getElem_cons_succ, List.getElem_cons_zero, Act.put, List.setIfInBounds_toArray, List.set_cons_zero, List.set_cons_succ]
          refine wpAnyH_take (i := 5) (v := ?vKt5) rfl (by kernel_rfl) (by kernel_rfl) (by kernel_rfl) (fun _ _ _ h => h) (Or.inl ⟨by rfl, ?yKt5⟩) hHeld ?rKt5
          case yKt5 => (intro W hSw; simp only [List.getElem_toArray, List.getElem_cons_succ, List.getElem_cons_zero]; go_simp; try (with_reducible rfl))
          simp only [List.getElem_toArray, List.getElem_cons_succ, List.getElem_cons_zero, Act.put, List.setIfInBounds_toArray, List.set_cons_zero, List.set_cons_succ]
          refine wpAnyH_take (i := 6) (v := ?vKt6) rfl (by kernel_rfl) (by kernel_rfl) (by kernel_rfl) (fun _ _ _ h => h) (Or.inl ⟨by rfl, ?yKt6⟩) hHeld ?rKt6
          case yKt6 => (intro W hSw; simp only [List.getElem_toArray, List.getElem_cons_succ, List.getElem_cons_zero]; go_simp; try (with_reducible rfl))
          simp only [List.getElem_toArray, List.getElem_cons_succ, List.getElem_cons_zero, Act.put, List.setIfInBounds_toArray, List.set_cons_zero, List.set_cons_succ]
          refine wpAnyH_take (i := 7) (v := ?vKt7) rfl (by kernel_rfl) (by kernel_rfl) (by kernel_rfl) (fun _ _ _ h => h) (Or.inl ⟨by rfl, ?yKt7⟩) hHeld ?rKt7
          case yKt7 => (intro W hSw; simp only [List.getElem_toArray, List.getElem_cons_succ, List.getElem_cons_zero]; go_simp; try (with_reducible rfl))
          simp only [List.getElem_toArray, List.getElem_cons_succ, List.getElem_cons_zero, Act.put, List.setIfInBounds_toArray, List.set_cons_zero, List.set_cons_succ]
          refine wpAnyH_take (i := 9) (v := ?vKt9) rfl (by kernel_rfl) (by kernel_rfl) (by kernel_rfl) (fun _ _ _ h => h) (Or.inl ⟨by rfl, ?yKt9⟩) hHeld ?rKt9
          case yKt9 => (intro W hSw; simp only [List.getElem_toArray, List.getElem_cons_succ, List.getElem_cons_zero]; go_simp; try (with_reducible rfl))
          simp only [List.getElem_toArray, List.getElem_cons_succ, List.getElem_cons_zero, Act.put, List.setIfInBounds_toArray, List.set_cons_zero, List.set_cons_succ]
          refine wpAnyH_take (i := 10) (v := ?vKt10) rfl (by kernel_rfl) (by kernel_rfl) (by kernel_rfl) (fun _ _ _ h => h) (Or.inl ⟨by rfl, ?yKt10⟩) hHeld ?rKt10
          case yKt10 => (intro W hSw; simp only [List.getElem_toArray, List.getElem_cons_succ, List.getElem_cons_zero]; go_simp; try (with_reducible rfl))
          simp only [List.getElem_toArray, List.getElem_cons_succ, List.getElem_cons_zero, Act.put, List.setIfInBounds_toArray, List.set_cons_zero, List.set_cons_succ]
          refine wpAnyH_ready (rs := [8]) (by kernel_rfl) (by simp) (AllReadyH.cons rfl (fun K hK => ?_) AllReadyH.nil)
          simp only [List.getElem_toArray, List.getElem_cons_succ, List.getElem_cons_zero]
          go_simp
          (go_at_call 13; refine (C9.out _ hHeld.1).mono ?_; rintro e w20 ⟨rfl, hb1⟩)
          try go_wp2_with fail
          refine hK.out _ _ (⟨pts_go hHeld.1 hb1, (Kp.two hb1 (Kp.two hb1 (Kp.two hb1 (Kp.two hb1 (Kp.two hb1 (Kp.two hb1 (Kp.two hb1 (Kp.two hb1 (Kp.two hb1 (Kp.two hb1 (Kp.two hb1 (Kp.two hb1 (Kp.ends hb1))))))))))))) hHeld.2⟩) (fun hHeld1 => ?_)
          clear hK K hHeld
          have hHeld := hHeld1; clear hHeld1
          try simp only [List.getElem_toArray, List.getElem_cons_succ, List.getElem_cons_zero, Act.put, List.setIfInBounds_toArray, List.set_cons_zero, List.set_cons_succ]
          refine wpAnyH_ready (rs := [11]) (by kernel_rfl) (by simp) (AllReadyH.cons rfl (fun K hK => ?_) AllReadyH.nil)
          simp only [List.getElem_toArray, List.getElem_cons_succ, List.getElem_cons_zero]
          go_simp
          (go_at_call 13; refine (C3g.out _ hHeld.2.2.2.2.2.2.2.2.2.2.2.2.2.2.2.2.2.2.2.2.2.2.2.2.2.2).mono ?_; rintro e w21 ⟨rfl, hb1⟩)
          try go_wp2_with fail
          refine hK.out _ _ (⟨pts_go hHeld.1 hb1, (Kp.two hb1 (Kp.two hb1 (Kp.two hb1 (Kp.two hb1 (Kp.two hb1 (Kp.two hb1 (Kp.two hb1 (Kp.two hb1 (Kp.two hb1 (Kp.two hb1 (Kp.two hb1 (Kp.two hb1 (Kp.ends hb1))))))))))))) hHeld.2⟩) (fun hHeld1 => ?_)
          clear hK K hHeld
          have hHeld := hHeld1; clear hHeld1
          try simp only [List.getElem_toArray, List.getElem_cons_succ, List.getElem_cons_zero, Act.put, List.setIfInBounds_toArray, List.set_cons_zero, List.set_cons_succ]
          refine wpAnyH_take (i := 12) (v := ?vKt12) rfl (by kernel_rfl) (by kernel_rfl) (by kernel_rfl) (fun _ _ _ h => h) (Or.inl ⟨by rfl, ?yKt12⟩) hHeld ?rKt12
          case yKt12 => (intro W hSw; simp only [List.getElem_toArray, List.getElem_cons_succ, List.getElem_cons_zero]; go_simp; try (with_reducible rfl))
          simp only [List.getElem_toArray, List.getElem_cons_succ, List.getElem_cons_zero, Act.put, List.setIfInBounds_toArray, List.set_cons_zero, List.set_cons_succ]
          refine wpAnyH_take (i := 13) (v := ?vKt13) rfl (by kernel_rfl) (by kernel_rfl) (by kernel_rfl) (fun _ _ _ h => h) (Or.inl ⟨by rfl, ?yKt13⟩) hHeld ?rKt13
          case yKt13 => (intro W hSw; simp only [List.getElem_toArray, List.getElem_cons_succ, List.getElem_cons_zero]; go_simp; try (with_reducible rfl))
          simp only [List.getElem_toArray, List.getElem_cons_succ, List.getElem_cons_zero, Act.put, List.setIfInBounds_toArray, List.set_cons_zero, List.set_cons_succ]
          refine wpAnyH_take (i := 14) (v := ?vKt14) rfl (by kernel_rfl) (by kernel_rfl) (by kernel_rfl) (fun _ _ _ h => h) (Or.inl ⟨by rfl, ?yKt14⟩) hHeld ?rKt14
          case yKt14 => (intro W hSw; simp only [List.getElem_toArray, List.getElem_cons_succ, List.getElem_cons_zero]; go_simp; try (with_reducible rfl))
          simp only [List.getElem_toArray, List.getElem_cons_succ, List.getElem_cons_zero, Act.put, List.setIfInBounds_toArray, List.set_cons_zero, List.set_cons_succ]
          refine wpAnyH_take (i := 15) (v := ?vKt15) rfl (by kernel_rfl) (by kernel_rfl) (by kernel_rfl) (fun _ _ _ h => h) (Or.inl ⟨by rfl, ?yKt15⟩) hHeld ?rKt15
          case yKt15 => (intro W hSw; simp only [List.getElem_toArray, List.getElem_cons_succ, List.getElem_cons_zero]; go_simp; try (with_reducible rfl))
          simp only [List.getElem_toArray, List.getElem_cons_succ, List.getElem_cons_zero, Act.put, List.setIfInBounds_toArray, List.set_cons_zero, List.set_cons_succ]
          refine wpAnyH_take (i := 16) (v := ?vKt16) rfl (by kernel_rfl) (by kernel_rfl) (by kernel_rfl) (fun _ _ _ h => h) (Or.inl ⟨by rfl, ?yKt16⟩) hHeld ?rKt16
          case yKt16 => (intro W hSw; simp only [List.getElem_toArray, List.getElem_cons_succ, List.getElem_cons_zero]; go_simp; try (with_reducible rfl))
          simp only [List.getElem_toArray, List.getElem_cons_succ, List.getElem_cons_zero, Act.put, List.setIfInBounds_toArray, List.set_cons_zero, List.set_cons_succ]
          refine wpAnyH_take (i := 17) (v := ?vKt17) rfl (by kernel_rfl) (by kernel_rfl) (by kernel_rfl) (fun _ _ _ h => h) (Or.inl ⟨by rfl, ?yKt17⟩) hHeld ?rKt17
          case yKt17 => (intro W hSw; simp only [List.getElem_toArray, List.getElem_cons_succ, List.getElem_cons_zero]; go_simp; try (with_reducible rfl))
          simp only [List.getElem_toArray, List.getElem_cons_succ, List.getElem_cons_zero, Act.put, List.setIfInBounds_toArray, List.set_cons_zero, List.set_cons_succ]
          refine wpAnyH_take (i := 18) (v := ?vKt18) rfl (by kernel_rfl) (by kernel_rfl) (by kernel_rfl) (fun _ _ _ h => h) (Or.inl ⟨by rfl, ?yKt18⟩) hHeld ?rKt18
          case yKt18 => (intro W hSw; simp only [List.getElem_toArray, List.getElem_cons_succ, List.getElem_cons_zero]; go_simp; try (with_reducible rfl))
          simp only [List.getElem_toArray, List.getElem_cons_succ, List.getElem_cons_zero, Act.put, List.setIfInBounds_toArray, List.set_cons_zero, List.set_cons_succ]
          refine wpAnyH_take (i := 19) (v := ?vKt19) rfl (by kernel_rfl) (by kernel_rfl) (by kernel_rfl) (fun _ _ _ h => h) (Or.inl ⟨by rfl, ?yKt19⟩) hHeld ?rKt19
          case yKt19 => (intro W hSw; simp only [List.getElem_toArray, List.getElem_cons_succ, List.getElem_cons_zero]; go_simp; try (with_reducible rfl))
          simp only [List.getElem_toArray, List.getElem_cons_succ, List.getElem_cons_zero, Act.put, List.setIfInBounds_toArray, List.set_cons_zero, List.set_cons_succ]
          refine wpAnyH_take (i := 20) (v := ?vKt20) rfl (by kernel_rfl) (by kernel_rfl) (by kernel_rfl) (fun _ _ _ h => h) (Or.inl ⟨by rfl, ?yKt20⟩) hHeld ?rKt20
          case yKt20 => (intro W hSw; simp only [List.getElem_toArray, List.getElem_cons_succ, List.getElem_cons_zero]; go_simp; try (with_reducible rfl))
          simp only [List.getElem_toArray, List.getElem_cons_succ, List.getElem_cons_zero, Act.put, List.setIfInBounds_toArray, List.set_cons_zero, List.set_cons_succ]
          refine wpAnyH_take (i := 21) (v := ?vKt21) rfl (by kernel_rfl) (by kernel_rfl) (by kernel_rfl) (fun _ _ _ h => h) (Or.inl ⟨by rfl, ?yKt21⟩) hHeld ?rKt21
          case yKt21 => (intro W hSw; simp only [List.getElem_toArray, List.getElem_cons_succ, List.getElem_cons_zero]; go_simp; try (with_reducible rfl))
          simp only [List.getElem_toArray, List.getElem_cons_succ, List.getElem_cons_zero, Act.put, List.setIfInBounds_toArray, List.set_cons_zero, List.set_cons_succ]
          refine wpAnyH_take (i := 22) (v := ?vKt22) rfl (by kernel_rfl) (by kernel_rfl) (by kernel_rfl) (fun _ _ _ h => h) (Or.inl ⟨by rfl, ?yKt22⟩) hHeld ?rKt22
          case yKt22 => (intro W hSw; simp only [List.getElem_toArray, List.getElem_cons_succ, List.getElem_cons_zero]; go_simp; try (with_reducible rfl))
          simp only [List.getElem_toArray, List.getElem_cons_succ, List.getElem_cons_zero, Act.put, List.setIfInBounds_toArray, List.set_cons_zero, List.set_cons_succ]
          refine wpAnyH_take (i := 23) (v := ?vKt23) rfl (by kernel_rfl) (by kernel_rfl) (by kernel_rfl) (fun _ _ _ h => h) (Or.inl ⟨by rfl, ?yKt23⟩) hHeld ?rKt23
          case yKt23 => (intro W hSw; simp only [List.getElem_toArray, List.getElem_cons_succ, List.getElem_cons_zero]; go_simp; try (with_reducible rfl))
          simp only [List.getElem_toArray, List.getElem_cons_succ, List.getElem_cons_zero, Act.put, List.setIfInBounds_toArray, List.set_cons_zero, List.set_cons_succ]
          refine wpAnyH_take (i := 24) (v := ?vKt24) rfl (by kernel_rfl) (by kernel_rfl) (by kernel_rfl) (fun _ _ _ h => h) (Or.inl ⟨by rfl, ?yKt24⟩) hHeld ?rKt24
          case yKt24 => (intro W hSw; simp only [List.getElem_toArray, List.getElem_cons_succ, List.getElem_cons_zero]; go_simp; try (with_reducible rfl))
          simp only [List.getElem_toArray, List.getElem_cons_succ, List.getElem_cons_zero, Act.put, List.setIfInBounds_toArray, List.set_cons_zero, List.set_cons_succ]
          refine wpAnyH_take (i := 25) (v := ?vKt25) rfl (by kernel_rfl) (by kernel_rfl) (by kernel_rfl) (fun _ _ _ h => h) (Or.inl ⟨by rfl, ?yKt25⟩) hHeld ?rKt25
          case yKt25 => (intro W hSw; simp only [List.getElem_toArray, List.getElem_cons_succ, List.getElem_cons_zero]; go_simp; try (with_reducible rfl))
          simp only [List.getElem_toArray, List.getElem_cons_succ, List.getElem_cons_zero, Act.put, List.setIfInBounds_toArray, List.set_cons_zero, List.set_cons_succ]
          refine wpAnyH_take (i := 26) (v := ?vKt26) rfl (by kernel_rfl) (by kernel_rfl) (by kernel_rfl) (fun _ _ _ h => h) (Or.inl ⟨by rfl, ?yKt26⟩) hHeld ?rKt26
          case yKt26 => (intro W hSw; simp only [List.getElem_toArray, List.getElem_cons_succ, List.getElem_cons_zero]; go_simp; try (with_reducible rfl))
          simp only [List.getElem_toArray, List.getElem_cons_succ, List.getElem_cons_zero, Act.put, List.setIfInBounds_toArray, List.set_cons_zero, List.set_cons_succ]
          refine wpAnyH_take (i := 27) (v := ?vKt27) rfl (by kernel_rfl) (by kernel_rfl) (by kernel_rfl) (fun _ _ _ h => h) (Or.inl ⟨by rfl, ?yKt27⟩) hHeld ?rKt27
          case yKt27 => (intro W hSw; simp only [List.getElem_toArray, List.getElem_cons_succ, List.getElem_cons_zero]; go_simp; try (with_reducible rfl))
          simp only [List.getElem_toArray, List.getElem_cons_succ, List.getElem_cons_zero, Act.put, List.setIfInBounds_toArray, List.set_cons_zero, List.set_cons_succ]
          refine wpAnyH_take (i := 28) (v := ?vKt28) rfl (by kernel_rfl) (by kernel_rfl) (by kernel_rfl) (fun _ _ _ h => h) (Or.inl ⟨by rfl, ?yKt28⟩) hHeld ?rKt28
          case yKt28 => (intro W hSw; simp only [List.getElem_toArray, List.getElem_cons_succ, List.getElem_cons_zero]; go_simp; try (with_reducible rfl))
          simp only [List.getElem_toArray, List.getElem_cons_succ, List.getElem_cons_zero, Act.put, List.setIfInBounds_toArray, List.set_cons_zero, List.set_cons_succ]
          refine wpAnyH_take (i := 29) (v := ?vKt29) rfl (by kernel_rfl) (by kernel_rfl) (by kernel_rfl) (fun _ _ _ h => h) (Or.inl ⟨by rfl, ?yKt29⟩) hHeld ?rKt29
          case yKt29 => (intro W hSw; simp only [List.getElem_toArray, List.getElem_cons_succ, List.getElem_cons_zero]; go_simp; try (with_reducible rfl))
          simp only [List.getElem_toArray, List.getElem_cons_succ, List.getElem_cons_zero, Act.put, List.setIfInBounds_toArray, List.set_cons_zero, List.set_cons_succ]
          refine wpAnyH_take (i := 30) (v := ?vKt30) rfl (by kernel_rfl) (by kernel_rfl) (by kernel_rfl) (fun _ _ _ h => h) (Or.inl ⟨by rfl, ?yKt30⟩) hHeld ?rKt30
          case yKt30 => (intro W hSw; simp only [List.getElem_toArray, List.getElem_cons_succ, List.getElem_cons_zero]; go_simp; try (with_reducible rfl))
          simp only [List.getElem_toArray, List.getElem_cons_succ, List.getElem_cons_zero, Act.put, List.setIfInBounds_toArray, List.set_cons_zero, List.set_cons_succ]
          refine wpAnyH_take (i := 31) (v := ?vKt31) rfl (by kernel_rfl) (by kernel_rfl) (by kernel_rfl) (fun _ _ _ h => h) (Or.inl ⟨by rfl, ?yKt31⟩) hHeld ?rKt31
          case yKt31 => (intro W hSw; simp only [List.getElem_toArray, List.getElem_cons_succ, List.getElem_cons_zero]; go_simp; try (with_reducible rfl))
          simp only [List.getElem_toArray, List.getElem_cons_succ, List.getElem_cons_zero, Act.put, List.setIfInBounds_toArray, List.set_cons_zero, List.set_cons_succ]
          refine wpAnyH_take (i := 32) (v := ?vKt32) rfl (by kernel_rfl) (by kernel_rfl) (by kernel_rfl) (fun _ _ _ h => h) (Or.inl ⟨by rfl, ?yKt32⟩) hHeld ?rKt32
          case yKt32 => (intro W hSw; simp only [List.getElem_toArray, List.getElem_cons_succ, List.getElem_cons_zero]; go_simp; try (with_reducible rfl))
          simp only [List.getElem_toArray, List.getElem_cons_succ, List.getElem_cons_zero, Act.put, List.setIfInBounds_toArray, List.set_cons_zero, List.set_cons_succ]
          refine wpAnyH_take (i := 33) (v := ?vKt33) rfl (by kernel_rfl) (by kernel_rfl) (by kernel_rfl) (fun _ _ _ h => h) (Or.inl ⟨by rfl, ?yKt33⟩) hHeld ?rKt33
          case yKt33 => (intro W hSw; simp only [List.getElem_toArray, List.getElem_cons_succ, List.getElem_cons_zero]; go_simp; try (with_reducible rfl))
          simp only [List.getElem_toArray, List.getElem_cons_succ, List.getElem_cons_zero, Act.put, List.setIfInBounds_toArray, List.set_cons_zero, List.set_cons_succ]
          refine wpAnyH_take (i := 34) (v := ?vKt34) rfl (by kernel_rfl) (by kernel_rfl) (by kernel_rfl) (fun _ _ _ h => h) (Or.inl ⟨by rfl, ?yKt34⟩) hHeld ?rKt34
          case yKt34 => (intro W hSw; simp only [List.getElem_toArray, List.getElem_cons_succ, List.getElem_cons_zero]; go_simp; try (with_reducible rfl))
          simp only [List.getElem_toArray, List.getElem_cons_succ, List.getElem_cons_zero, Act.put, List.setIfInBounds_toArray, List.set_cons_zero, List.set_cons_succ]
          refine wpAnyH_take (i := 35) (v := ?vKt35) rfl (by kernel_rfl) (by kernel_rfl) (by kernel_rfl) (fun _ _ _ h => h) (Or.inl ⟨by rfl, ?yKt35⟩) hHeld ?rKt35
          case yKt35 => (intro W hSw; simp only [List.getElem_toArray, List.getElem_cons_succ, List.getElem_cons_zero]; go_simp; try (with_reducible rfl))
          simp only [List.getElem_toArray, List.getElem_cons_succ, List.getElem_cons_zero, Act.put, List.setIfInBounds_toArray, List.set_cons_zero, List.set_cons_succ]
          refine wpAnyH_take (i := 36) (v := ?vKt36) rfl (by kernel_rfl) (by kernel_rfl) (by kernel_rfl) (fun _ _ _ h => h) (Or.inl ⟨by rfl, ?yKt36⟩) hHeld ?rKt36
          case yKt36 => (intro W hSw; simp only [List.getElem_toArray, List.getElem_cons_succ, List.getElem_cons_zero]; go_simp; try (with_reducible rfl))
          simp only [List.getElem_toArray, List.getElem_cons_succ, List.getElem_cons_zero, Act.put, List.setIfInBounds_toArray, List.set_cons_zero, List.set_cons_succ]
          refine wpAnyH_take (i := 37) (v := ?vKt37) rfl (by kernel_rfl) (by kernel_rfl) (by kernel_rfl) (fun _ _ _ h => h) (Or.inl ⟨by rfl, ?yKt37⟩) hHeld ?rKt37
          case yKt37 => (intro W hSw; simp only [List.getElem_toArray, List.getElem_cons_succ, List.getElem_cons_zero]; go_simp; try (with_reducible rfl))
          simp only [List.getElem_toArray, List.getElem_cons_succ, List.getElem_cons_zero, Act.put, List.setIfInBounds_toArray, List.set_cons_zero, List.set_cons_succ]
          refine wpAnyH_take (i := 38) (v := ?vKt38) rfl (by kernel_rfl) (by kernel_rfl) (by kernel_rfl) (fun _ _ _ h => h) (Or.inl ⟨by rfl, ?yKt38⟩) hHeld ?rKt38
          case yKt38 => (intro W hSw; simp only [List.getElem_toArray, List.getElem_cons_succ, List.getElem_cons_zero]; go_simp; try (with_reducible rfl))
          simp only [List.getElem_toArray, List.getElem_cons_succ, List.getElem_cons_zero, Act.put, List.setIfInBounds_toArray, List.set_cons_zero, List.set_cons_succ]
          refine wpAnyH_take (i := 39) (v := ?vKt39) rfl (by kernel_rfl) (by kernel_rfl) (by kernel_rfl) (fun _ _ _ h => h) (Or.inl ⟨by rfl, ?yKt39⟩) hHeld ?rKt39
          case yKt39 => (intro W hSw; simp only [List.getElem_toArray, List.getElem_cons_succ, List.getElem_cons_zero]; go_simp; try (with_reducible rfl))
          simp only [List.getElem_toArray, List.getElem_cons_succ, List.getElem_cons_zero, Act.put, List.setIfInBounds_toArray, List.set_cons_zero, List.set_cons_succ]
          refine wpAnyH_done (by kernel_rfl) ?_ _
          go_wp2_with fail
          go_ret
          exact ⟨by simp, hHeld.2.2.2.2.2.2.2.2.2.2.2.2.2.2.2.2.2.2.2.2.2.2.2.2.2.2⟩
    · have K7 := Lib.hid ((Kp.two hb7 (Kp.two hb7 (Kp.two hb7 (Kp.two hb7 (Kp.two hb7 (Kp.two hb7 (Kp.one hb7 (Kp.ends hb7)))))))) K6.out)
      clear hb7 z6 K6
      have z7 := K7.out
      have M7 := Lib.hid ((Kp.two (Kp.behind _ (.cells #[.int .i64 0, .int .i64 0, .int .i64 0, .int .i64 0, .slice none 0 0] 26)) (Kp.two (Kp.behind _ (.cells #[.int .i64 0, .int .i64 0, .int .i64 0, .int .i64 0, .slice none 0 0] 26)) (Kp.two (Kp.behind _ (.cells #[.int .i64 0, .int .i64 0, .int .i64 0, .int .i64 0, .slice none 0 0] 26)) (Kp.two (Kp.behind _ (.cells #[.int .i64 0, .int .i64 0, .int .i64 0, .int .i64 0, .slice none 0 0] 26)) (Kp.two (Kp.behind _ (.cells #[.int .i64 0, .int .i64 0, .int .i64 0, .int .i64 0, .slice none 0 0] 26)) (Kp.two (Kp.behind _ (.cells #[.int .i64 0, .int .i64 0, .int .i64 0, .int .i64 0, .slice none 0 0] 26)) (Kp.one (Kp.behind _ (.cells #[.int .i64 0, .int .i64 0, .int .i64 0, .int .i64 0, .slice none 0 0] 26)) (fun h => Kp.ad50 h w7.heap.size rfl (.int .i64 0) (.int .i64 0) (.int .i64 0) (.int .i64 0) (.slice none 0 0) 26)))))))) K7.out)
      have y7 := K7.out
      clear K7 z7
      have z7 := M7.out
      have N7 := Lib.hid ((Kp.two (Kp.behind _ (.cells #[.int .i64 sx, .int .i64 sy] 28)) (Kp.two (Kp.behind _ (.cells #[.int .i64 sx, .int .i64 sy] 28)) (Kp.two (Kp.behind _ (.cells #[.int .i64 sx, .int .i64 sy] 28)) (Kp.two (Kp.behind _ (.cells #[.int .i64 sx, .int .i64 sy] 28)) (Kp.two (Kp.behind _ (.cells #[.int .i64 sx, .int .i64 sy] 28)) (Kp.two (Kp.behind _ (.cells #[.int .i64 sx, .int .i64 sy] 28)) (Kp.two (Kp.behind _ (.cells #[.int .i64 sx, .int .i64 sy] 28)) (Kp.two (Kp.behind _ (.cells #[.int .i64 sx, .int .i64 sy] 28)) (Kp.two (Kp.behind _ (.cells #[.int .i64 sx, .int .i64 sy] 28)) (fun h => Kp.add0 h (w7.heap.size + 1) (by simp) (.int .i64 sx) (.int .i64 sy) 28)))))))))) M7.out)
      clear M7
      have u7 := N7.out
      have x1 := SX.out.symm
      have x2 := SY.out.symm
      go_wp2_with fail
      clear x1 x2
      refine (C6.out _).mono ?_
      rintro e w8 ⟨rfl, hb8⟩
      have K8 := Lib.hid ((Kp.two hb8 (Kp.two hb8 (Kp.two hb8 (Kp.two hb8 (Kp.two hb8 (Kp.two hb8 (Kp.two hb8 (Kp.two hb8 (Kp.two hb8 (Kp.two hb8 (Kp.ends hb8))))))))))) N7.out)
      clear hb8 z7 y7 u7 N7
      have z8 := K8.out
      go_wp2_with fail
      refine (C7.out _).mono ?_
      rintro e w9 ⟨rfl, hb9⟩
      have K9 := Lib.hid ((Kp.two hb9 (Kp.two hb9 (Kp.two hb9 (Kp.two hb9 (Kp.two hb9 (Kp.two hb9 (Kp.two hb9 (Kp.two hb9 (Kp.two hb9 (Kp.two hb9 (Kp.ends hb9))))))))))) K8.out)
      clear hb9 z8 K8
      have z9 := K9.out
      go_wp2_with fail
      go_ret
      exact ⟨rfl, K9.out.2.2.2.2.2.2.2.2.2.2.2.2.2.2.2.2.2.2.2.2.2⟩

theorem keeps_all (a b c d : Int) (l : List Pnt) (A : Option Addr) (k : Nat) (p v : Pnt) (w : World) (hA : PtsAt w w.heap.size A l) (hm : l.length ≤ maxLen) :
    Calls Try.prog 5 #[.agg #[.int .i64 a, .int .i64 b, .int .i64 c, .int .i64 d, .slice A l.length k], .agg #[.int .i64 p.1, .int .i64 p.2], .agg #[.int .i64 v.1, .int .i64 v.2]] w fun e w' => e = .returned (.bool true) ∧ Below w.heap.size w w' := by
  by_cases h : l.length ≤ 70
  · cases hg : rgB a b c d l
    · exact keeps_bad a b c d l A k p v w hA h hg
    · exact keeps_good a b c d l A k p v w hA h hg
  · exact keeps_far a b c d A l.length k p v w hm h
end Go.Proofs.Ytiggjaodfmelpaa.Rg
