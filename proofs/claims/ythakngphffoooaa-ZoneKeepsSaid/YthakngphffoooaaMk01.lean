/-
  Contract of Move of layer 16 (region). Memory that was there is left as it was; the points that it tells lie in a new block.
-/
import Derived.Test.YthakngphffoooaaMt08
/-
  Contracts of movePoly, moveRect and Move of layer 16 (region), and of the document's add. Memory that was there is left as it was.
-/
namespace Go.Proofs.Ythakngphffoooaa.Rg
open Go.RowKit Go.Proofs.Ythakngphffoooaa.Pt Go.Proofs.Ythakngphffoooaa.Rc Go.Proofs.Ythakngphffoooaa.Pts Go.Proofs.Ythakngphffoooaa.Pl
set_option linter.unusedVariables false

theorem pts_far {W : World} {B g r o : Nat} {l : List Pnt} {x : Value} (h : PtsAt W B (some ⟨g, 0, none⟩) l) (hg : g ≠ r) : PtsAt (W.setCell ⟨r, o, none⟩ x) B (some ⟨g, 0, none⟩) l := by
  intro hl
  obtain ⟨b, off, e, hB, hc⟩ := h hl
  simp at e
  obtain ⟨rfl, rfl⟩ := e
  exact ⟨g, 0, rfl, hB, fun k hk => ⟨(cell_far W x (fun e => hg e.symm)).trans (hc k hk).1, (cell_far W x (fun e => hg e.symm)).trans (hc k hk).2⟩⟩

set_option maxHeartbeats 1000000 in
theorem movePoly_any (l : List Pnt) (A : Option Addr) (c : Nat) (v : Pnt) (w : World) (hA : PtsAt w w.heap.size A l) (hs : simpleB l = true) :
    Calls Try.prog 29 #[.slice A l.length c, .agg #[.int .i64 v.1, .int .i64 v.2]] w fun e w' => Below w.heap.size w w' ∧
      ((fineB l v = true ∧ ∃ g, e = .returned (.tuple #[.agg #[.int .i64 0, .int .i64 0, .int .i64 0, .int .i64 0, .slice (some ⟨g, 0, none⟩) l.length l.length], .nilIface]) ∧ PtsAt w' w'.heap.size (some ⟨g, 0, none⟩) (moveL l v) ∧ w.heap.size ≤ g) ∨
       (fineB l v = false ∧ e = .returned (.tuple #[.agg #[.int .i64 0, .int .i64 0, .int .i64 0, .int .i64 0, .slice none 0 0], .iface 37 (.int .i64 11)]))) := by
  have C := Lib.hid (fun W (h : Below w.heap.size w W) => move_new l A c v W ((hA.later h).wide h.size) hs)
  obtain ⟨n, e⟩ : ∃ n, n = l.length := ⟨_, rfl⟩
  rw [← e] at C ⊢
  clear e hA hs
  have n1 := neq_range
  have n2 := neq_nil
  have L0 := (fun h => Kp.add0 h w.heap.size rfl (.int .i64 v.1) (.int .i64 v.2) 28) ⟨Nat.le_refl _, Below.refl w.heap.size w⟩
  have L1 := (Kp.two (Kp.behind _ (.cells #[.int .i64 0, .int .i64 0, .int .i64 0, .int .i64 0, .slice none 0 0] 26)) (fun h => Kp.ad50 h (w.heap.size + 1) (by simp) (.int .i64 0) (.int .i64 0) (.int .i64 0) (.int .i64 0) (.slice none 0 0) 26)) L0
  have L := Lib.hid L1
  clear L0 L1
  have z := L.out
  have F0 : ∀ o, ((w.alloc (.cells #[.int .i64 v.1, .int .i64 v.2] 28)).alloc (.cells #[.int .i64 0, .int .i64 0, .int .i64 0, .int .i64 0, .slice none 0 0] 26)).frozen? ⟨w.heap.size + 1, o, none⟩ = false := Kp.newsoft _ _ (by simp) _ _
  have Z0 : w.heap.size + 1 < ((w.alloc (.cells #[.int .i64 v.1, .int .i64 v.2] 28)).alloc (.cells #[.int .i64 0, .int .i64 0, .int .i64 0, .int .i64 0, .slice none 0 0] 26)).heap.size := by simp
  go_enter Try.func29, Try.ntmps29
  go_wp2_with fail
  refine (C.out _ L.out.2.2.2.2.2.2.2.2).mono ?_
  rintro e w1 ⟨hb1, h⟩
  have K1 := Lib.hid ((Kp.two hb1 (Kp.two hb1 (Kp.two hb1 (Kp.one hb1 (Kp.ends hb1))))) L.out)
  have z1 := K1.out
  have F1 := Kp.soft hb1 Z0 F0
  have HZ : w.heap.size + 1 < w1.heap.size := Nat.lt_of_lt_of_le Z0 hb1.size
  clear hb1 z L F0
  rcases h with ⟨hf, g, rfl, hP, hg⟩ | ⟨hf, rfl⟩
  · have HP := Lib.hid hP
    have HG : g ≠ w.heap.size + 1 := by simp at hg; omega
    have HGw : w.heap.size ≤ g := by simp at hg; omega
    clear hP hg
    go_wp2_with fail
    refine bodyPost_ret (v := .tuple #[.agg #[.int .i64 0, .int .i64 0, .int .i64 0, .int .i64 0, .slice (some ⟨g, 0, none⟩) n n], .nilIface]) (by simp [results, Try.results29, go_sem, *]) rfl ⟨?_, Or.inl ⟨hf, g, rfl, ?_, HGw⟩⟩
    · have B := K1.out.2.2.2.2.2.2.2.2
      exact (((((B.setCell (by simp; try omega) _).setCell (by simp; try omega) _).setCell (by simp; try omega) _).setCell (by simp; try omega) _).setCell (by simp; try omega) _)
    · have Q := pts_far (o := 4) (x := .slice (some ⟨g, 0, none⟩) n n) (pts_far (o := 3) (x := .int .i64 0) (pts_far (o := 2) (x := .int .i64 0) (pts_far (o := 1) (x := .int .i64 0) (pts_far (o := 0) (x := .int .i64 0) HP.out HG) HG) HG) HG) HG
      simpa using Q
  · go_wp2_with fail
    refine bodyPost_ret (v := .tuple #[.agg #[.int .i64 0, .int .i64 0, .int .i64 0, .int .i64 0, .slice none 0 0], .iface 37 (.int .i64 11)]) (by simp [results, Try.results29, go_sem, *]) rfl ⟨?_, Or.inr ⟨hf, rfl⟩⟩
    have B := K1.out.2.2.2.2.2.2.2.2
    exact (((((B.setCell (by simp; try omega) _).setCell (by simp; try omega) _).setCell (by simp; try omega) _).setCell (by simp; try omega) _).setCell (by simp; try omega) _)

theorem add2_fine (x y : Int) (v : Pnt) (w : World) (hp : pmay (x, y) = true) (h : stepB v (x, y) = true) :
    Calls Try.prog 49 #[.agg #[.int .i64 x, .int .i64 y], .agg #[.int .i64 v.1, .int .i64 v.2]] w fun e w' => e = .returned (.tuple #[.agg #[.int .i64 (x + v.1), .int .i64 (y + v.2)], .nilIface]) ∧ Below w.heap.size w w' := add_fine (x, y) v w hp h
theorem add2_bad (x y : Int) (v : Pnt) (w : World) (hp : pmay (x, y) = true) (h : stepB v (x, y) = false) :
    Calls Try.prog 49 #[.agg #[.int .i64 x, .int .i64 y], .agg #[.int .i64 v.1, .int .i64 v.2]] w fun e w' => e = .returned (.tuple #[.agg #[.int .i64 0, .int .i64 0], .iface 37 (.int .i64 11)]) ∧ Below w.heap.size w w' := add_bad (x, y) v w hp h
theorem rmay_both {x1 y1 x2 y2 : Int} (h : rmayB x1 y1 x2 y2 = true) : pmay (x1, y1) = true ∧ pmay (x2, y2) = true := ⟨(rmayB_iff.1 h).1, (rmayB_iff.1 h).2.1⟩
set_option maxHeartbeats 1000000 in
theorem moveRect_no1 (a b c d : Int) (v : Pnt) (w : World) (hr : rmayB a b c d = true) (hs1 : stepB v (a, b) = false) :
    Calls Try.prog 30 #[.agg #[.int .i64 a, .int .i64 b, .int .i64 c, .int .i64 d], .agg #[.int .i64 v.1, .int .i64 v.2]] w fun e w' => e = .returned (.tuple #[.agg #[.int .i64 0, .int .i64 0, .int .i64 0, .int .i64 0, .slice none 0 0], .iface 37 (.int .i64 11)]) ∧ Below w.heap.size w w' := by
  have h1 := (rmay_both hr).1
  have h2 := (rmay_both hr).2
  clear hr
  have n1 := neq_range
  have n2 := neq_nil
  have L0 := (fun h => Kp.adq0 h w.heap.size rfl (.int .i64 a) (.int .i64 b) (.int .i64 c) (.int .i64 d) 23) ⟨Nat.le_refl _, Below.refl w.heap.size w⟩
  have L1 := (Kp.two (Kp.behind _ (.cells #[.int .i64 v.1, .int .i64 v.2] 28)) (Kp.two (Kp.behind _ (.cells #[.int .i64 v.1, .int .i64 v.2] 28)) (fun h => Kp.add0 h (w.heap.size + 1) (by simp) (.int .i64 v.1) (.int .i64 v.2) 28))) L0
  have L2 := (Kp.two (Kp.behind _ (.cells #[.int .i64 0, .int .i64 0, .int .i64 0, .int .i64 0, .slice none 0 0] 26)) (Kp.two (Kp.behind _ (.cells #[.int .i64 0, .int .i64 0, .int .i64 0, .int .i64 0, .slice none 0 0] 26)) (Kp.two (Kp.behind _ (.cells #[.int .i64 0, .int .i64 0, .int .i64 0, .int .i64 0, .slice none 0 0] 26)) (fun h => Kp.ad50 h (w.heap.size + 1 + 1) (by simp) (.int .i64 0) (.int .i64 0) (.int .i64 0) (.int .i64 0) (.slice none 0 0) 26)))) L1
  have L := Lib.hid L2
  clear L0 L1 L2
  have z := L.out
  have F0 : ∀ o, (((w.alloc (.cells #[.int .i64 a, .int .i64 b, .int .i64 c, .int .i64 d] 23)).alloc (.cells #[.int .i64 v.1, .int .i64 v.2] 28)).alloc (.cells #[.int .i64 0, .int .i64 0, .int .i64 0, .int .i64 0, .slice none 0 0] 26)).frozen? ⟨w.heap.size + 1 + 1, o, none⟩ = false := Kp.newsoft _ _ (by simp) _ _
  have Z0 : w.heap.size + 1 + 1 < (((w.alloc (.cells #[.int .i64 a, .int .i64 b, .int .i64 c, .int .i64 d] 23)).alloc (.cells #[.int .i64 v.1, .int .i64 v.2] 28)).alloc (.cells #[.int .i64 0, .int .i64 0, .int .i64 0, .int .i64 0, .slice none 0 0] 26)).heap.size := by simp
  go_enter Try.func30, Try.ntmps30
  go_wp2_with fail
  refine (add2_bad a b v _ h1 hs1).mono ?_
  rintro e w1 ⟨rfl, hb1⟩
  have K1 := Lib.hid ((Kp.two hb1 (Kp.two hb1 (Kp.two hb1 (Kp.two hb1 (Kp.two hb1 (Kp.one hb1 (Kp.ends hb1))))))) L.out)
  have z1 := K1.out
  have F1 := Kp.soft hb1 Z0 F0
  have Z1 : w.heap.size + 1 + 1 < w1.heap.size := Nat.lt_of_lt_of_le Z0 hb1.size
  clear hb1 z L F0 Z0
  go_wp2_with fail
  refine bodyPost_ret (v := .tuple #[.agg #[.int .i64 0, .int .i64 0, .int .i64 0, .int .i64 0, .slice none 0 0], .iface 37 (.int .i64 11)]) (by simp [results, Try.results30, go_sem, *]) rfl ⟨rfl, ?_⟩
  have B := K1.out.2.2.2.2.2.2.2.2.2.2.2.2
  exact (((((B.setCell (by simp; try omega) _).setCell (by simp; try omega) _).setCell (by simp; try omega) _).setCell (by simp; try omega) _).setCell (by simp; try omega) _).alloc (by have := B.size; simp; omega) _
set_option maxHeartbeats 1000000 in
theorem moveRect_no2 (a b c d : Int) (v : Pnt) (w : World) (hr : rmayB a b c d = true) (hs1 : stepB v (a, b) = true) (hs2 : stepB v (c, d) = false) :
    Calls Try.prog 30 #[.agg #[.int .i64 a, .int .i64 b, .int .i64 c, .int .i64 d], .agg #[.int .i64 v.1, .int .i64 v.2]] w fun e w' => e = .returned (.tuple #[.agg #[.int .i64 0, .int .i64 0, .int .i64 0, .int .i64 0, .slice none 0 0], .iface 37 (.int .i64 11)]) ∧ Below w.heap.size w w' := by
  have h1 := (rmay_both hr).1
  have h2 := (rmay_both hr).2
  clear hr
  have n1 := neq_range
  have n2 := neq_nil
  have L0 := (fun h => Kp.adq0 h w.heap.size rfl (.int .i64 a) (.int .i64 b) (.int .i64 c) (.int .i64 d) 23) ⟨Nat.le_refl _, Below.refl w.heap.size w⟩
  have L1 := (Kp.two (Kp.behind _ (.cells #[.int .i64 v.1, .int .i64 v.2] 28)) (Kp.two (Kp.behind _ (.cells #[.int .i64 v.1, .int .i64 v.2] 28)) (fun h => Kp.add0 h (w.heap.size + 1) (by simp) (.int .i64 v.1) (.int .i64 v.2) 28))) L0
  have L2 := (Kp.two (Kp.behind _ (.cells #[.int .i64 0, .int .i64 0, .int .i64 0, .int .i64 0, .slice none 0 0] 26)) (Kp.two (Kp.behind _ (.cells #[.int .i64 0, .int .i64 0, .int .i64 0, .int .i64 0, .slice none 0 0] 26)) (Kp.two (Kp.behind _ (.cells #[.int .i64 0, .int .i64 0, .int .i64 0, .int .i64 0, .slice none 0 0] 26)) (fun h => Kp.ad50 h (w.heap.size + 1 + 1) (by simp) (.int .i64 0) (.int .i64 0) (.int .i64 0) (.int .i64 0) (.slice none 0 0) 26)))) L1
  have L := Lib.hid L2
  clear L0 L1 L2
  have z := L.out
  have F0 : ∀ o, (((w.alloc (.cells #[.int .i64 a, .int .i64 b, .int .i64 c, .int .i64 d] 23)).alloc (.cells #[.int .i64 v.1, .int .i64 v.2] 28)).alloc (.cells #[.int .i64 0, .int .i64 0, .int .i64 0, .int .i64 0, .slice none 0 0] 26)).frozen? ⟨w.heap.size + 1 + 1, o, none⟩ = false := Kp.newsoft _ _ (by simp) _ _
  have Z0 : w.heap.size + 1 + 1 < (((w.alloc (.cells #[.int .i64 a, .int .i64 b, .int .i64 c, .int .i64 d] 23)).alloc (.cells #[.int .i64 v.1, .int .i64 v.2] 28)).alloc (.cells #[.int .i64 0, .int .i64 0, .int .i64 0, .int .i64 0, .slice none 0 0] 26)).heap.size := by simp
  go_enter Try.func30, Try.ntmps30
  go_wp2_with fail
  refine (add2_fine a b v _ h1 hs1).mono ?_
  rintro e w1 ⟨rfl, hb1⟩
  have K1 := Lib.hid ((Kp.two hb1 (Kp.two hb1 (Kp.two hb1 (Kp.two hb1 (Kp.two hb1 (Kp.one hb1 (Kp.ends hb1))))))) L.out)
  have z1 := K1.out
  have F1 := Kp.soft hb1 Z0 F0
  have Z1 : w.heap.size + 1 + 1 < w1.heap.size := Nat.lt_of_lt_of_le Z0 hb1.size
  clear hb1 z L F0 Z0
  have M := Lib.hid ((Kp.two (Kp.behind _ (.cells #[.int .i64 (a + v.1), .int .i64 (b + v.2)] 28)) (Kp.two (Kp.behind _ (.cells #[.int .i64 (a + v.1), .int .i64 (b + v.2)] 28)) (Kp.two (Kp.behind _ (.cells #[.int .i64 (a + v.1), .int .i64 (b + v.2)] 28)) (Kp.two (Kp.behind _ (.cells #[.int .i64 (a + v.1), .int .i64 (b + v.2)] 28)) (Kp.two (Kp.behind _ (.cells #[.int .i64 (a + v.1), .int .i64 (b + v.2)] 28)) (Kp.one (Kp.behind _ (.cells #[.int .i64 (a + v.1), .int .i64 (b + v.2)] 28)) (fun h => Kp.add0 h w1.heap.size rfl (.int .i64 (a + v.1)) (.int .i64 (b + v.2)) 28))))))) K1.out)
  have m := M.out
  have FM : ∀ o, (w1.alloc (.cells #[.int .i64 (a + v.1), .int .i64 (b + v.2)] 28)).frozen? ⟨w.heap.size + 1 + 1, o, none⟩ = false := Kp.soft (Kp.behind _ _) Z1 F1
  have ZM : w.heap.size + 1 + 1 < (w1.alloc (.cells #[.int .i64 (a + v.1), .int .i64 (b + v.2)] 28)).heap.size := by rw [World.size_alloc]; omega
  have ZW : w.heap.size + 1 + 1 < w1.heap.size := Z1
  go_wp2_with fail
  refine (add2_bad c d v _ h2 hs2).mono ?_
  rintro e w2 ⟨rfl, hb2⟩
  have K2 := Lib.hid ((Kp.two hb2 (Kp.two hb2 (Kp.two hb2 (Kp.two hb2 (Kp.two hb2 (Kp.two hb2 (Kp.one hb2 (Kp.ends hb2)))))))) M.out)
  have z2 := K2.out
  have F2 := Kp.soft hb2 ZM FM
  have Z2 : w.heap.size + 1 + 1 < w2.heap.size := Nat.lt_of_lt_of_le ZM hb2.size
  clear hb2 M m FM ZM K1 z1 F1 Z1
  go_wp2_with fail
  refine bodyPost_ret (v := .tuple #[.agg #[.int .i64 0, .int .i64 0, .int .i64 0, .int .i64 0, .slice none 0 0], .iface 37 (.int .i64 11)]) (by simp [results, Try.results30, go_sem, *]) rfl ⟨rfl, ?_⟩
  have B := K2.out.2.2.2.2.2.2.2.2.2.2.2.2.2.2
  exact (((((B.setCell (by simp; try omega) _).setCell (by simp; try omega) _).setCell (by simp; try omega) _).setCell (by simp; try omega) _).setCell (by simp; try omega) _).alloc (by have := B.size; simp; omega) _
set_option maxHeartbeats 1000000 in
theorem moveRect_yes (a b c d : Int) (v : Pnt) (w : World) (hr : rmayB a b c d = true) (hs1 : stepB v (a, b) = true) (hs2 : stepB v (c, d) = true) :
    Calls Try.prog 30 #[.agg #[.int .i64 a, .int .i64 b, .int .i64 c, .int .i64 d], .agg #[.int .i64 v.1, .int .i64 v.2]] w fun e w' => e = .returned (.tuple #[.agg #[.int .i64 (a + v.1), .int .i64 (b + v.2), .int .i64 (c + v.1), .int .i64 (d + v.2), .slice none 0 0], .nilIface]) ∧ Below w.heap.size w w' := by
  have h1 := (rmay_both hr).1
  have h2 := (rmay_both hr).2
  clear hr
  have n1 := neq_range
  have n2 := neq_nil
  have L0 := (fun h => Kp.adq0 h w.heap.size rfl (.int .i64 a) (.int .i64 b) (.int .i64 c) (.int .i64 d) 23) ⟨Nat.le_refl _, Below.refl w.heap.size w⟩
  have L1 := (Kp.two (Kp.behind _ (.cells #[.int .i64 v.1, .int .i64 v.2] 28)) (Kp.two (Kp.behind _ (.cells #[.int .i64 v.1, .int .i64 v.2] 28)) (fun h => Kp.add0 h (w.heap.size + 1) (by simp) (.int .i64 v.1) (.int .i64 v.2) 28))) L0
  have L2 := (Kp.two (Kp.behind _ (.cells #[.int .i64 0, .int .i64 0, .int .i64 0, .int .i64 0, .slice none 0 0] 26)) (Kp.two (Kp.behind _ (.cells #[.int .i64 0, .int .i64 0, .int .i64 0, .int .i64 0, .slice none 0 0] 26)) (Kp.two (Kp.behind _ (.cells #[.int .i64 0, .int .i64 0, .int .i64 0, .int .i64 0, .slice none 0 0] 26)) (fun h => Kp.ad50 h (w.heap.size + 1 + 1) (by simp) (.int .i64 0) (.int .i64 0) (.int .i64 0) (.int .i64 0) (.slice none 0 0) 26)))) L1
  have L := Lib.hid L2
  clear L0 L1 L2
  have z := L.out
  have F0 : ∀ o, (((w.alloc (.cells #[.int .i64 a, .int .i64 b, .int .i64 c, .int .i64 d] 23)).alloc (.cells #[.int .i64 v.1, .int .i64 v.2] 28)).alloc (.cells #[.int .i64 0, .int .i64 0, .int .i64 0, .int .i64 0, .slice none 0 0] 26)).frozen? ⟨w.heap.size + 1 + 1, o, none⟩ = false := Kp.newsoft _ _ (by simp) _ _
  have Z0 : w.heap.size + 1 + 1 < (((w.alloc (.cells #[.int .i64 a, .int .i64 b, .int .i64 c, .int .i64 d] 23)).alloc (.cells #[.int .i64 v.1, .int .i64 v.2] 28)).alloc (.cells #[.int .i64 0, .int .i64 0, .int .i64 0, .int .i64 0, .slice none 0 0] 26)).heap.size := by simp
  go_enter Try.func30, Try.ntmps30
  go_wp2_with fail
  refine (add2_fine a b v _ h1 hs1).mono ?_
  rintro e w1 ⟨rfl, hb1⟩
  have K1 := Lib.hid ((Kp.two hb1 (Kp.two hb1 (Kp.two hb1 (Kp.two hb1 (Kp.two hb1 (Kp.one hb1 (Kp.ends hb1))))))) L.out)
  have z1 := K1.out
  have F1 := Kp.soft hb1 Z0 F0
  have Z1 : w.heap.size + 1 + 1 < w1.heap.size := Nat.lt_of_lt_of_le Z0 hb1.size
  clear hb1 z L F0 Z0
  have M := Lib.hid ((Kp.two (Kp.behind _ (.cells #[.int .i64 (a + v.1), .int .i64 (b + v.2)] 28)) (Kp.two (Kp.behind _ (.cells #[.int .i64 (a + v.1), .int .i64 (b + v.2)] 28)) (Kp.two (Kp.behind _ (.cells #[.int .i64 (a + v.1), .int .i64 (b + v.2)] 28)) (Kp.two (Kp.behind _ (.cells #[.int .i64 (a + v.1), .int .i64 (b + v.2)] 28)) (Kp.two (Kp.behind _ (.cells #[.int .i64 (a + v.1), .int .i64 (b + v.2)] 28)) (Kp.one (Kp.behind _ (.cells #[.int .i64 (a + v.1), .int .i64 (b + v.2)] 28)) (fun h => Kp.add0 h w1.heap.size rfl (.int .i64 (a + v.1)) (.int .i64 (b + v.2)) 28))))))) K1.out)
  have m := M.out
  have FM : ∀ o, (w1.alloc (.cells #[.int .i64 (a + v.1), .int .i64 (b + v.2)] 28)).frozen? ⟨w.heap.size + 1 + 1, o, none⟩ = false := Kp.soft (Kp.behind _ _) Z1 F1
  have ZM : w.heap.size + 1 + 1 < (w1.alloc (.cells #[.int .i64 (a + v.1), .int .i64 (b + v.2)] 28)).heap.size := by rw [World.size_alloc]; omega
  have ZW : w.heap.size + 1 + 1 < w1.heap.size := Z1
  go_wp2_with fail
  refine (add2_fine c d v _ h2 hs2).mono ?_
  rintro e w2 ⟨rfl, hb2⟩
  have K2 := Lib.hid ((Kp.two hb2 (Kp.two hb2 (Kp.two hb2 (Kp.two hb2 (Kp.two hb2 (Kp.two hb2 (Kp.one hb2 (Kp.ends hb2)))))))) M.out)
  have z2 := K2.out
  have F2 := Kp.soft hb2 ZM FM
  have Z2 : w.heap.size + 1 + 1 < w2.heap.size := Nat.lt_of_lt_of_le ZM hb2.size
  clear hb2 M m FM ZM K1 z1 F1 Z1
  have MM := (Kp.two (Kp.behind _ (.cells #[.int .i64 (c + v.1), .int .i64 (d + v.2)] 28)) (Kp.two (Kp.behind _ (.cells #[.int .i64 (c + v.1), .int .i64 (d + v.2)] 28)) (Kp.two (Kp.behind _ (.cells #[.int .i64 (c + v.1), .int .i64 (d + v.2)] 28)) (Kp.two (Kp.behind _ (.cells #[.int .i64 (c + v.1), .int .i64 (d + v.2)] 28)) (Kp.two (Kp.behind _ (.cells #[.int .i64 (c + v.1), .int .i64 (d + v.2)] 28)) (Kp.two (Kp.behind _ (.cells #[.int .i64 (c + v.1), .int .i64 (d + v.2)] 28)) (Kp.one (Kp.behind _ (.cells #[.int .i64 (c + v.1), .int .i64 (d + v.2)] 28)) (fun h => Kp.add0 h w2.heap.size rfl (.int .i64 (c + v.1)) (.int .i64 (d + v.2)) 28)))))))) K2.out
  have FF : ∀ o, (w2.alloc (.cells #[.int .i64 (c + v.1), .int .i64 (d + v.2)] 28)).frozen? ⟨w.heap.size + 1 + 1, o, none⟩ = false := Kp.soft (Kp.behind _ _) Z2 F2
  go_wp2_with fail
  refine bodyPost_ret (v := .tuple #[.agg #[.int .i64 (a + v.1), .int .i64 (b + v.2), .int .i64 (c + v.1), .int .i64 (d + v.2), .slice none 0 0], .nilIface]) (by simp [results, Try.results30, go_sem, *]) rfl ⟨rfl, ?_⟩
  have B := K2.out.2.2.2.2.2.2.2.2.2.2.2.2.2.2
  exact (((((B.setCell (by simp; try omega) _).setCell (by simp; try omega) _).setCell (by simp; try omega) _).setCell (by simp; try omega) _).setCell (by simp; try omega) _).alloc (by have := B.size; simp; omega) _
end Go.Proofs.Ythakngphffoooaa.Rg
namespace Go.Proofs.Ythakngphffoooaa.Rg
open Go.RowKit Go.Proofs.Ythakngphffoooaa.Pt Go.Proofs.Ythakngphffoooaa.Rc Go.Proofs.Ythakngphffoooaa.Pts Go.Proofs.Ythakngphffoooaa.Pl
set_option linter.unusedVariables false

theorem mvB_rect {a b c d : Int} {l : List Pnt} {v : Pnt} (h : l.length = 0) : mvB a b c d l v = (stepB v (a, b) && stepB v (c, d)) := by
  unfold mvB stepB
  rw [if_pos h]
  unfold pmay addP
  cases mayB v.1 v.2 <;> simp
theorem mvB_poly {a b c d : Int} {l : List Pnt} {v : Pnt} (h : 0 < l.length) : mvB a b c d l v = fineB l v := by unfold mvB; rw [if_neg (by omega)]
theorem mvN_rect {l : List Pnt} (h : l.length = 0) (a x : Int) : mvN l a x = a + x := by unfold mvN; rw [if_pos h]
theorem mvN_poly {l : List Pnt} (h : 0 < l.length) (a x : Int) : mvN l a x = 0 := by unfold mvN; rw [if_neg (by omega)]

set_option maxHeartbeats 1000000 in
theorem move_arg2 (a b c d : Int) (l : List Pnt) (A : Option Addr) (k : Nat) (v : Pnt) (w : World) (hA : PtsAt w w.heap.size A l) (hn : l.length ≤ 70) (hg : rgB a b c d l = false) :
    Calls Try.prog 15 #[.agg #[.int .i64 a, .int .i64 b, .int .i64 c, .int .i64 d, .slice A l.length k], .agg #[.int .i64 v.1, .int .i64 v.2]] w fun e w' => e = .returned (.tuple #[.agg #[.int .i64 0, .int .i64 0, .int .i64 0, .int .i64 0, .slice none 0 0], .iface 37 (.int .i64 1)]) ∧ Below w.heap.size w w' := by
  have C1 := Lib.hid (fun W (h : Below w.heap.size w W) => may_any a b c d l A k W ((hA.later h).wide h.size) hn)
  rw [hg] at C1
  obtain ⟨n, e⟩ : ∃ n, n = l.length := ⟨_, rfl⟩
  rw [← e] at C1 ⊢
  clear e hA hn hg
  have L0 := (fun h => Kp.ad50 h w.heap.size rfl (.int .i64 a) (.int .i64 b) (.int .i64 c) (.int .i64 d) (.slice A n k) 26) ⟨Nat.le_refl _, Below.refl w.heap.size w⟩
  have L1 := (Kp.two (Kp.behind _ (.cells #[.int .i64 v.1, .int .i64 v.2] 28)) (Kp.two (Kp.behind _ (.cells #[.int .i64 v.1, .int .i64 v.2] 28)) (Kp.one (Kp.behind _ (.cells #[.int .i64 v.1, .int .i64 v.2] 28)) (fun h => Kp.add0 h (w.heap.size + 1) (by simp) (.int .i64 v.1) (.int .i64 v.2) 28)))) L0
  have L2 := (Kp.two (Kp.behind _ (.cells #[.int .i64 0, .int .i64 0, .int .i64 0, .int .i64 0, .slice none 0 0] 26)) (Kp.two (Kp.behind _ (.cells #[.int .i64 0, .int .i64 0, .int .i64 0, .int .i64 0, .slice none 0 0] 26)) (Kp.two (Kp.behind _ (.cells #[.int .i64 0, .int .i64 0, .int .i64 0, .int .i64 0, .slice none 0 0] 26)) (Kp.one (Kp.behind _ (.cells #[.int .i64 0, .int .i64 0, .int .i64 0, .int .i64 0, .slice none 0 0] 26)) (fun h => Kp.ad50 h (w.heap.size + 1 + 1) (by simp) (.int .i64 0) (.int .i64 0) (.int .i64 0) (.int .i64 0) (.slice none 0 0) 26))))) L1
  have L := Lib.hid L2
  clear L0 L1 L2
  have z := L.out
  have F0 : ∀ o, (((w.alloc (.cells #[.int .i64 a, .int .i64 b, .int .i64 c, .int .i64 d, .slice A n k] 26)).alloc (.cells #[.int .i64 v.1, .int .i64 v.2] 28)).alloc (.cells #[.int .i64 0, .int .i64 0, .int .i64 0, .int .i64 0, .slice none 0 0] 26)).frozen? ⟨w.heap.size + 1 + 1, o, none⟩ = false := Kp.newsoft _ _ (by simp) _ _
  have Z0 : w.heap.size + 1 + 1 < (((w.alloc (.cells #[.int .i64 a, .int .i64 b, .int .i64 c, .int .i64 d, .slice A n k] 26)).alloc (.cells #[.int .i64 v.1, .int .i64 v.2] 28)).alloc (.cells #[.int .i64 0, .int .i64 0, .int .i64 0, .int .i64 0, .slice none 0 0] 26)).heap.size := by simp
  go_enter Try.func15, Try.ntmps15
  go_wp2_with fail
  refine (C1.out _ L.out.2.2.2.2.2.2.2.2.2.2.2.2.2).mono ?_
  rintro e w1 ⟨rfl, hb1⟩
  have K1 := Lib.hid ((Kp.two hb1 (Kp.two hb1 (Kp.two hb1 (Kp.two hb1 (Kp.two hb1 (Kp.two hb1 (Kp.ends hb1))))))) L.out)
  have z1 := K1.out
  have F1 := Kp.soft hb1 Z0 F0
  have Z1 : w.heap.size + 1 + 1 < w1.heap.size := Nat.lt_of_lt_of_le Z0 hb1.size
  clear hb1 z L F0 Z0
  go_wp2_with fail
  refine bodyPost_ret (v := .tuple #[.agg #[.int .i64 0, .int .i64 0, .int .i64 0, .int .i64 0, .slice none 0 0], .iface 37 (.int .i64 1)]) (by simp [results, Try.results15, go_sem, *]) rfl ⟨rfl, ?_⟩
  have B := K1.out.2.2.2.2.2.2.2.2.2.2.2.2.2
  exact (((((B.setCell (by simp; try omega) _).setCell (by simp; try omega) _).setCell (by simp; try omega) _).setCell (by simp; try omega) _).setCell (by simp; try omega) _)

theorem moveRect_no (a b c d : Int) (v : Pnt) (w : World) (hr : rmayB a b c d = true) (hm : (stepB v (a, b) && stepB v (c, d)) = false) :
    Calls Try.prog 30 #[.agg #[.int .i64 a, .int .i64 b, .int .i64 c, .int .i64 d], .agg #[.int .i64 v.1, .int .i64 v.2]] w fun e w' => e = .returned (.tuple #[.agg #[.int .i64 0, .int .i64 0, .int .i64 0, .int .i64 0, .slice none 0 0], .iface 37 (.int .i64 11)]) ∧ Below w.heap.size w w' := by
  cases h1 : stepB v (a, b)
  · exact moveRect_no1 a b c d v w hr h1
  · rw [h1, Bool.true_and] at hm
    exact moveRect_no2 a b c d v w hr h1 hm
theorem moveRect_ok (a b c d : Int) (v : Pnt) (w : World) (hr : rmayB a b c d = true) (hm : (stepB v (a, b) && stepB v (c, d)) = true) :
    Calls Try.prog 30 #[.agg #[.int .i64 a, .int .i64 b, .int .i64 c, .int .i64 d], .agg #[.int .i64 v.1, .int .i64 v.2]] w fun e w' => e = .returned (.tuple #[.agg #[.int .i64 (a + v.1), .int .i64 (b + v.2), .int .i64 (c + v.1), .int .i64 (d + v.2), .slice none 0 0], .nilIface]) ∧ Below w.heap.size w w' := by
  rw [Bool.and_eq_true] at hm
  exact moveRect_yes a b c d v w hr hm.1 hm.2

set_option maxHeartbeats 1000000 in
theorem rect_no (a b c d : Int) (A : Option Addr) (k : Nat) (v : Pnt) (w : World) (hr : rmayB a b c d = true) (hm : (stepB v (a, b) && stepB v (c, d)) = false) :
    Calls Try.prog 15 #[.agg #[.int .i64 a, .int .i64 b, .int .i64 c, .int .i64 d, .slice A 0 k], .agg #[.int .i64 v.1, .int .i64 v.2]] w fun e w' => e = .returned (.tuple #[.agg #[.int .i64 0, .int .i64 0, .int .i64 0, .int .i64 0, .slice none 0 0], .iface 37 (.int .i64 11)]) ∧ Below w.heap.size w w' := by
  have C1 := Lib.hid (fun W => may_no a b c d A k W)
  have C2 := Lib.hid (fun W => moveRect_no a b c d v W hr hm)
  rw [hr] at C1
  clear hr hm
  have L0 := (fun h => Kp.ad50 h w.heap.size rfl (.int .i64 a) (.int .i64 b) (.int .i64 c) (.int .i64 d) (.slice A 0 k) 26) ⟨Nat.le_refl _, Below.refl w.heap.size w⟩
  have L1 := (Kp.two (Kp.behind _ (.cells #[.int .i64 v.1, .int .i64 v.2] 28)) (Kp.two (Kp.behind _ (.cells #[.int .i64 v.1, .int .i64 v.2] 28)) (Kp.one (Kp.behind _ (.cells #[.int .i64 v.1, .int .i64 v.2] 28)) (fun h => Kp.add0 h (w.heap.size + 1) (by simp) (.int .i64 v.1) (.int .i64 v.2) 28)))) L0
  have L2 := (Kp.two (Kp.behind _ (.cells #[.int .i64 0, .int .i64 0, .int .i64 0, .int .i64 0, .slice none 0 0] 26)) (Kp.two (Kp.behind _ (.cells #[.int .i64 0, .int .i64 0, .int .i64 0, .int .i64 0, .slice none 0 0] 26)) (Kp.two (Kp.behind _ (.cells #[.int .i64 0, .int .i64 0, .int .i64 0, .int .i64 0, .slice none 0 0] 26)) (Kp.one (Kp.behind _ (.cells #[.int .i64 0, .int .i64 0, .int .i64 0, .int .i64 0, .slice none 0 0] 26)) (fun h => Kp.ad50 h (w.heap.size + 1 + 1) (by simp) (.int .i64 0) (.int .i64 0) (.int .i64 0) (.int .i64 0) (.slice none 0 0) 26))))) L1
  have L := Lib.hid L2
  clear L0 L1 L2
  have z := L.out
  have F0 : ∀ o, (((w.alloc (.cells #[.int .i64 a, .int .i64 b, .int .i64 c, .int .i64 d, .slice A 0 k] 26)).alloc (.cells #[.int .i64 v.1, .int .i64 v.2] 28)).alloc (.cells #[.int .i64 0, .int .i64 0, .int .i64 0, .int .i64 0, .slice none 0 0] 26)).frozen? ⟨w.heap.size + 1 + 1, o, none⟩ = false := Kp.newsoft _ _ (by simp) _ _
  have Z0 : w.heap.size + 1 + 1 < (((w.alloc (.cells #[.int .i64 a, .int .i64 b, .int .i64 c, .int .i64 d, .slice A 0 k] 26)).alloc (.cells #[.int .i64 v.1, .int .i64 v.2] 28)).alloc (.cells #[.int .i64 0, .int .i64 0, .int .i64 0, .int .i64 0, .slice none 0 0] 26)).heap.size := by simp
  go_enter Try.func15, Try.ntmps15
  go_wp2_with fail
  refine (C1.out _).mono ?_
  rintro e w1 ⟨rfl, hb1⟩
  have K1 := Lib.hid ((Kp.two hb1 (Kp.two hb1 (Kp.two hb1 (Kp.two hb1 (Kp.two hb1 (Kp.two hb1 (Kp.ends hb1))))))) L.out)
  have z1 := K1.out
  have F1 := Kp.soft hb1 Z0 F0
  have Z1 : w.heap.size + 1 + 1 < w1.heap.size := Nat.lt_of_lt_of_le Z0 hb1.size
  clear hb1 z L F0 Z0
  go_wp2_with fail
  refine (has_no a b c d A k _).mono ?_
  rintro e w2 ⟨rfl, hb2⟩
  have K2 := Lib.hid ((Kp.two hb2 (Kp.two hb2 (Kp.two hb2 (Kp.two hb2 (Kp.two hb2 (Kp.two hb2 (Kp.ends hb2))))))) K1.out)
  have z2 := K2.out
  have F2 := Kp.soft hb2 Z1 F1
  have Z2 : w.heap.size + 1 + 1 < w2.heap.size := Nat.lt_of_lt_of_le Z1 hb2.size
  clear hb2 z1 K1 F1 Z1
  go_wp2_with fail
  refine (C2.out _).mono ?_
  rintro e w3 ⟨rfl, hb3⟩
  have K3 := Lib.hid ((Kp.two hb3 (Kp.two hb3 (Kp.two hb3 (Kp.two hb3 (Kp.two hb3 (Kp.two hb3 (Kp.ends hb3))))))) K2.out)
  have z3 := K3.out
  have F3 := Kp.soft hb3 Z2 F2
  have Z3 : w.heap.size + 1 + 1 < w3.heap.size := Nat.lt_of_lt_of_le Z2 hb3.size
  clear hb3 z2 K2 F2 Z2
  go_wp2_with fail
  refine bodyPost_ret (v := .tuple #[.agg #[.int .i64 0, .int .i64 0, .int .i64 0, .int .i64 0, .slice none 0 0], .iface 37 (.int .i64 11)]) (by simp [results, Try.results15, go_sem, *]) rfl ⟨rfl, ?_⟩
  have B := K3.out.2.2.2.2.2.2.2.2.2.2.2.2.2
  exact (((((B.setCell (by simp; try omega) _).setCell (by simp; try omega) _).setCell (by simp; try omega) _).setCell (by simp; try omega) _).setCell (by simp; try omega) _)

set_option maxHeartbeats 1000000 in
theorem rect_yes (a b c d : Int) (A : Option Addr) (k : Nat) (v : Pnt) (w : World) (hr : rmayB a b c d = true) (hm : (stepB v (a, b) && stepB v (c, d)) = true) :
    Calls Try.prog 15 #[.agg #[.int .i64 a, .int .i64 b, .int .i64 c, .int .i64 d, .slice A 0 k], .agg #[.int .i64 v.1, .int .i64 v.2]] w fun e w' => e = .returned (.tuple #[.agg #[.int .i64 (a + v.1), .int .i64 (b + v.2), .int .i64 (c + v.1), .int .i64 (d + v.2), .slice none 0 0], .nilIface]) ∧ Below w.heap.size w w' := by
  have C1 := Lib.hid (fun W => may_no a b c d A k W)
  have C2 := Lib.hid (fun W => moveRect_ok a b c d v W hr hm)
  rw [hr] at C1
  clear hr hm
  have L0 := (fun h => Kp.ad50 h w.heap.size rfl (.int .i64 a) (.int .i64 b) (.int .i64 c) (.int .i64 d) (.slice A 0 k) 26) ⟨Nat.le_refl _, Below.refl w.heap.size w⟩
  have L1 := (Kp.two (Kp.behind _ (.cells #[.int .i64 v.1, .int .i64 v.2] 28)) (Kp.two (Kp.behind _ (.cells #[.int .i64 v.1, .int .i64 v.2] 28)) (Kp.one (Kp.behind _ (.cells #[.int .i64 v.1, .int .i64 v.2] 28)) (fun h => Kp.add0 h (w.heap.size + 1) (by simp) (.int .i64 v.1) (.int .i64 v.2) 28)))) L0
  have L2 := (Kp.two (Kp.behind _ (.cells #[.int .i64 0, .int .i64 0, .int .i64 0, .int .i64 0, .slice none 0 0] 26)) (Kp.two (Kp.behind _ (.cells #[.int .i64 0, .int .i64 0, .int .i64 0, .int .i64 0, .slice none 0 0] 26)) (Kp.two (Kp.behind _ (.cells #[.int .i64 0, .int .i64 0, .int .i64 0, .int .i64 0, .slice none 0 0] 26)) (Kp.one (Kp.behind _ (.cells #[.int .i64 0, .int .i64 0, .int .i64 0, .int .i64 0, .slice none 0 0] 26)) (fun h => Kp.ad50 h (w.heap.size + 1 + 1) (by simp) (.int .i64 0) (.int .i64 0) (.int .i64 0) (.int .i64 0) (.slice none 0 0) 26))))) L1
  have L := Lib.hid L2
  clear L0 L1 L2
  have z := L.out
  have F0 : ∀ o, (((w.alloc (.cells #[.int .i64 a, .int .i64 b, .int .i64 c, .int .i64 d, .slice A 0 k] 26)).alloc (.cells #[.int .i64 v.1, .int .i64 v.2] 28)).alloc (.cells #[.int .i64 0, .int .i64 0, .int .i64 0, .int .i64 0, .slice none 0 0] 26)).frozen? ⟨w.heap.size + 1 + 1, o, none⟩ = false := Kp.newsoft _ _ (by simp) _ _
  have Z0 : w.heap.size + 1 + 1 < (((w.alloc (.cells #[.int .i64 a, .int .i64 b, .int .i64 c, .int .i64 d, .slice A 0 k] 26)).alloc (.cells #[.int .i64 v.1, .int .i64 v.2] 28)).alloc (.cells #[.int .i64 0, .int .i64 0, .int .i64 0, .int .i64 0, .slice none 0 0] 26)).heap.size := by simp
  go_enter Try.func15, Try.ntmps15
  go_wp2_with fail
  refine (C1.out _).mono ?_
  rintro e w1 ⟨rfl, hb1⟩
  have K1 := Lib.hid ((Kp.two hb1 (Kp.two hb1 (Kp.two hb1 (Kp.two hb1 (Kp.two hb1 (Kp.two hb1 (Kp.ends hb1))))))) L.out)
  have z1 := K1.out
  have F1 := Kp.soft hb1 Z0 F0
  have Z1 : w.heap.size + 1 + 1 < w1.heap.size := Nat.lt_of_lt_of_le Z0 hb1.size
  clear hb1 z L F0 Z0
  go_wp2_with fail
  refine (has_no a b c d A k _).mono ?_
  rintro e w2 ⟨rfl, hb2⟩
  have K2 := Lib.hid ((Kp.two hb2 (Kp.two hb2 (Kp.two hb2 (Kp.two hb2 (Kp.two hb2 (Kp.two hb2 (Kp.ends hb2))))))) K1.out)
  have z2 := K2.out
  have F2 := Kp.soft hb2 Z1 F1
  have Z2 : w.heap.size + 1 + 1 < w2.heap.size := Nat.lt_of_lt_of_le Z1 hb2.size
  clear hb2 z1 K1 F1 Z1
  go_wp2_with fail
  refine (C2.out _).mono ?_
  rintro e w3 ⟨rfl, hb3⟩
  have K3 := Lib.hid ((Kp.two hb3 (Kp.two hb3 (Kp.two hb3 (Kp.two hb3 (Kp.two hb3 (Kp.two hb3 (Kp.ends hb3))))))) K2.out)
  have z3 := K3.out
  have F3 := Kp.soft hb3 Z2 F2
  have Z3 : w.heap.size + 1 + 1 < w3.heap.size := Nat.lt_of_lt_of_le Z2 hb3.size
  clear hb3 z2 K2 F2 Z2
  go_wp2_with fail
  refine bodyPost_ret (v := .tuple #[.agg #[.int .i64 (a + v.1), .int .i64 (b + v.2), .int .i64 (c + v.1), .int .i64 (d + v.2), .slice none 0 0], .nilIface]) (by simp [results, Try.results15, go_sem, *]) rfl ⟨rfl, ?_⟩
  have B := K3.out.2.2.2.2.2.2.2.2.2.2.2.2.2
  exact (((((B.setCell (by simp; try omega) _).setCell (by simp; try omega) _).setCell (by simp; try omega) _).setCell (by simp; try omega) _).setCell (by simp; try omega) _)

set_option maxHeartbeats 1000000 in
theorem move_poly (a b c d : Int) (l : List Pnt) (A : Option Addr) (k : Nat) (v : Pnt) (w : World) (hA : PtsAt w w.heap.size A l) (h0 : 0 < l.length) (hn : l.length ≤ 70) (hg : rgB a b c d l = true) :
    Calls Try.prog 15 #[.agg #[.int .i64 a, .int .i64 b, .int .i64 c, .int .i64 d, .slice A l.length k], .agg #[.int .i64 v.1, .int .i64 v.2]] w fun e w' => Below w.heap.size w w' ∧
      ((fineB l v = true ∧ ∃ g, e = .returned (.tuple #[.agg #[.int .i64 0, .int .i64 0, .int .i64 0, .int .i64 0, .slice (some ⟨g, 0, none⟩) l.length l.length], .nilIface]) ∧ PtsAt w' w'.heap.size (some ⟨g, 0, none⟩) (moveL l v) ∧ w.heap.size ≤ g) ∨
       (fineB l v = false ∧ e = .returned (.tuple #[.agg #[.int .i64 0, .int .i64 0, .int .i64 0, .int .i64 0, .slice none 0 0], .iface 37 (.int .i64 11)]))) := by
  have C1 := Lib.hid (fun W (h : Below w.heap.size w W) => may_any a b c d l A k W ((hA.later h).wide h.size) hn)
  rw [hg] at C1
  have C2 := Lib.hid (fun W (h : Below w.heap.size w W) => movePoly_any l A k v W ((hA.later h).wide h.size) (rgB_simple h0 hg).2)
  obtain ⟨n, e⟩ : ∃ n, n = l.length := ⟨_, rfl⟩
  rw [← e] at C1 C2 h0 hn ⊢
  clear e hA hg
  have L0 := (fun h => Kp.ad50 h w.heap.size rfl (.int .i64 a) (.int .i64 b) (.int .i64 c) (.int .i64 d) (.slice A n k) 26) ⟨Nat.le_refl _, Below.refl w.heap.size w⟩
  have L1 := (Kp.two (Kp.behind _ (.cells #[.int .i64 v.1, .int .i64 v.2] 28)) (Kp.two (Kp.behind _ (.cells #[.int .i64 v.1, .int .i64 v.2] 28)) (Kp.one (Kp.behind _ (.cells #[.int .i64 v.1, .int .i64 v.2] 28)) (fun h => Kp.add0 h (w.heap.size + 1) (by simp) (.int .i64 v.1) (.int .i64 v.2) 28)))) L0
  have L2 := (Kp.two (Kp.behind _ (.cells #[.int .i64 0, .int .i64 0, .int .i64 0, .int .i64 0, .slice none 0 0] 26)) (Kp.two (Kp.behind _ (.cells #[.int .i64 0, .int .i64 0, .int .i64 0, .int .i64 0, .slice none 0 0] 26)) (Kp.two (Kp.behind _ (.cells #[.int .i64 0, .int .i64 0, .int .i64 0, .int .i64 0, .slice none 0 0] 26)) (Kp.one (Kp.behind _ (.cells #[.int .i64 0, .int .i64 0, .int .i64 0, .int .i64 0, .slice none 0 0] 26)) (fun h => Kp.ad50 h (w.heap.size + 1 + 1) (by simp) (.int .i64 0) (.int .i64 0) (.int .i64 0) (.int .i64 0) (.slice none 0 0) 26))))) L1
  have L := Lib.hid L2
  clear L0 L1 L2
  have z := L.out
  have F0 : ∀ o, (((w.alloc (.cells #[.int .i64 a, .int .i64 b, .int .i64 c, .int .i64 d, .slice A n k] 26)).alloc (.cells #[.int .i64 v.1, .int .i64 v.2] 28)).alloc (.cells #[.int .i64 0, .int .i64 0, .int .i64 0, .int .i64 0, .slice none 0 0] 26)).frozen? ⟨w.heap.size + 1 + 1, o, none⟩ = false := Kp.newsoft _ _ (by simp) _ _
  have Z0 : w.heap.size + 1 + 1 < (((w.alloc (.cells #[.int .i64 a, .int .i64 b, .int .i64 c, .int .i64 d, .slice A n k] 26)).alloc (.cells #[.int .i64 v.1, .int .i64 v.2] 28)).alloc (.cells #[.int .i64 0, .int .i64 0, .int .i64 0, .int .i64 0, .slice none 0 0] 26)).heap.size := by simp
  go_enter Try.func15, Try.ntmps15
  go_wp2_with fail
  refine (C1.out _ L.out.2.2.2.2.2.2.2.2.2.2.2.2.2).mono ?_
  rintro e w1 ⟨rfl, hb1⟩
  have K1 := Lib.hid ((Kp.two hb1 (Kp.two hb1 (Kp.two hb1 (Kp.two hb1 (Kp.two hb1 (Kp.two hb1 (Kp.ends hb1))))))) L.out)
  have z1 := K1.out
  have F1 := Kp.soft hb1 Z0 F0
  have Z1 : w.heap.size + 1 + 1 < w1.heap.size := Nat.lt_of_lt_of_le Z0 hb1.size
  clear hb1 z L F0 Z0
  go_wp2_with fail
  refine (has_yes a b c d A n k _ h0 hn).mono ?_
  rintro e w2 ⟨rfl, hb2⟩
  have K2 := Lib.hid ((Kp.two hb2 (Kp.two hb2 (Kp.two hb2 (Kp.two hb2 (Kp.two hb2 (Kp.two hb2 (Kp.ends hb2))))))) K1.out)
  have z2 := K2.out
  have F2 := Kp.soft hb2 Z1 F1
  have Z2 : w.heap.size + 1 + 1 < w2.heap.size := Nat.lt_of_lt_of_le Z1 hb2.size
  clear hb2 z1 K1 F1 Z1
  go_wp2_with fail
  refine (C2.out _ K2.out.2.2.2.2.2.2.2.2.2.2.2.2.2).mono ?_
  rintro e w3 ⟨hb3, h⟩
  have K3 := Lib.hid ((Kp.two hb3 (Kp.two hb3 (Kp.two hb3 (Kp.two hb3 (Kp.two hb3 (Kp.two hb3 (Kp.ends hb3))))))) K2.out)
  have z3 := K3.out
  have F3 := Kp.soft hb3 Z2 F2
  have HZ := K2.out.2.2.2.2.2.2.2.2.2.2.2.2.2.size
  clear hb3 z2 K2 F2
  rcases h with ⟨hf, g, rfl, hP, hg⟩ | ⟨hf, rfl⟩
  · have HP := Lib.hid hP
    have HG : g ≠ w.heap.size + 1 + 1 := by omega
    have HGw : w.heap.size ≤ g := by omega
    clear hP hg
    go_wp2_with fail
    refine bodyPost_ret (v := .tuple #[.agg #[.int .i64 0, .int .i64 0, .int .i64 0, .int .i64 0, .slice (some ⟨g, 0, none⟩) n n], .nilIface]) (by simp [results, Try.results15, go_sem, *]) rfl ⟨?_, Or.inl ⟨hf, g, rfl, ?_, HGw⟩⟩
    · have B := K3.out.2.2.2.2.2.2.2.2.2.2.2.2.2
      exact (((((B.setCell (by simp; try omega) _).setCell (by simp; try omega) _).setCell (by simp; try omega) _).setCell (by simp; try omega) _).setCell (by simp; try omega) _)
    · have Q := pts_far (o := 4) (x := .slice (some ⟨g, 0, none⟩) n n) (pts_far (o := 3) (x := .int .i64 0) (pts_far (o := 2) (x := .int .i64 0) (pts_far (o := 1) (x := .int .i64 0) (pts_far (o := 0) (x := .int .i64 0) HP.out HG) HG) HG) HG) HG
      simpa using Q
  · go_wp2_with fail
    refine bodyPost_ret (v := .tuple #[.agg #[.int .i64 0, .int .i64 0, .int .i64 0, .int .i64 0, .slice none 0 0], .iface 37 (.int .i64 11)]) (by simp [results, Try.results15, go_sem, *]) rfl ⟨?_, Or.inr ⟨hf, rfl⟩⟩
    have B := K3.out.2.2.2.2.2.2.2.2.2.2.2.2.2
    exact (((((B.setCell (by simp; try omega) _).setCell (by simp; try omega) _).setCell (by simp; try omega) _).setCell (by simp; try omega) _).setCell (by simp; try omega) _)

/-- What a move of a region that may be tells; its points lie in a new block. -/
def MvEnd (w : World) (a b c d : Int) (l : List Pnt) (v : Pnt) (nil bad : Value) (e : Ending) (w' : World) : Prop :=
  Below w.heap.size w w' ∧ ((mvB a b c d l v = true ∧ ∃ B q, e = .returned (.tuple #[.agg #[.int .i64 (mvN l a v.1), .int .i64 (mvN l b v.2), .int .i64 (mvN l c v.1), .int .i64 (mvN l d v.2), .slice B (moveL l v).length q], nil]) ∧ PtsAt w' w'.heap.size B (moveL l v) ∧ (∀ g o s, B = some ⟨g, o, s⟩ → w.heap.size ≤ g)) ∨
    (mvB a b c d l v = false ∧ e = .returned (.tuple #[.agg #[.int .i64 0, .int .i64 0, .int .i64 0, .int .i64 0, .slice none 0 0], bad])))
theorem move_any (a b c d : Int) (l : List Pnt) (A : Option Addr) (k : Nat) (v : Pnt) (w : World) (hA : PtsAt w w.heap.size A l) (hn : l.length ≤ 70) (hg : rgB a b c d l = true) :
    Calls Try.prog 15 #[.agg #[.int .i64 a, .int .i64 b, .int .i64 c, .int .i64 d, .slice A l.length k], .agg #[.int .i64 v.1, .int .i64 v.2]] w (MvEnd w a b c d l v .nilIface (.iface 37 (.int .i64 11))) := by
  rcases Nat.eq_zero_or_pos l.length with h | h
  · have hl : l = [] := List.length_eq_zero_iff.1 h
    rw [rgB_no h] at hg
    cases hm : (stepB v (a, b) && stepB v (c, d))
    · rw [h]
      refine (rect_no a b c d A k v w hg hm).mono ?_
      rintro e w' ⟨rfl, hb⟩
      exact ⟨hb, Or.inr ⟨by rw [mvB_rect h, hm], rfl⟩⟩
    · rw [h]
      refine (rect_yes a b c d A k v w hg hm).mono ?_
      rintro e w' ⟨rfl, hb⟩
      refine ⟨hb, Or.inl ⟨by rw [mvB_rect h, hm], none, 0, ?_, ?_, fun g o s e => by cases e⟩⟩
      · rw [mvN_rect h, mvN_rect h, mvN_rect h, mvN_rect h, moveL_len, h]
      · subst hl
        exact fun h => absurd rfl h
  · refine (move_poly a b c d l A k v w hA h hn hg).mono ?_
    rintro e w' ⟨hb, ⟨hf, g, rfl, hP, hg⟩ | ⟨hf, rfl⟩⟩
    · refine ⟨hb, Or.inl ⟨by rw [mvB_poly h, hf], some ⟨g, 0, none⟩, l.length, ?_, hP, fun g' o s e => by cases e; exact hg⟩⟩
      rw [mvN_poly h, mvN_poly h, mvN_poly h, mvN_poly h, moveL_len]
    · exact ⟨hb, Or.inr ⟨by rw [mvB_poly h, hf], rfl⟩⟩
end Go.Proofs.Ythakngphffoooaa.Rg
