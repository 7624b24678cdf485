/-
  Contracts of movePoly, moveRect and Move of layer 16 (region), and of the document's add. Memory that was there is left as it was.
-/
import Derived.Test.YtiggjaodfmelpaaRgBox
import Derived.Test.YtiggjaodfmelpaaPtAdd
namespace Go.Proofs.Ytiggjaodfmelpaa.Rg
open Go.RowKit Go.Proofs.Ytiggjaodfmelpaa.Pt Go.Proofs.Ytiggjaodfmelpaa.Rc Go.Proofs.Ytiggjaodfmelpaa.Pts Go.Proofs.Ytiggjaodfmelpaa.Pl
set_option linter.unusedVariables false

theorem pts_far {W : World} {B g r o : Nat} {l : List Pnt} {x : Value} (h : PtsAt W B (some ⟨g, 0, none⟩) l) (hg : g ≠ r) : PtsAt (W.setCell ⟨r, o, none⟩ x) B (some ⟨g, 0, none⟩) l := by
  intro hl
  obtain ⟨b, off, e, hB, hc⟩ := h hl
  simp at e
  obtain ⟨rfl, rfl⟩ := e
  exact ⟨g, 0, rfl, hB, fun k hk => ⟨(cell_far W x (fun e => hg e.symm)).trans (hc k hk).1, (cell_far W x (fun e => hg e.symm)).trans (hc k hk).2⟩⟩

set_option maxHeartbeats 1000000 in
theorem refAdd_any (p v : Pnt) (w : World) (hp : pmay p = true) : Calls Try.prog 35 #[.agg #[.int .i64 p.1, .int .i64 p.2], .agg #[.int .i64 v.1, .int .i64 v.2]] w fun e w' =>
    (∃ x y : Int, e = .returned (.tuple #[.agg #[.int .i64 x, .int .i64 y], .bool (stepB v p)]) ∧ (stepB v p = true → x = p.1 + v.1 ∧ y = p.2 + v.2)) ∧ Below w.heap.size w w' := by
  obtain ⟨sx, hsx⟩ : ∃ s, s = IntKind.i64.wrap (p.1 + v.1) := ⟨_, rfl⟩
  obtain ⟨sy, hsy⟩ : ∃ s, s = IntKind.i64.wrap (p.2 + v.2) := ⟨_, rfl⟩
  have EQ : mayB v.1 v.2 = true → sx = p.1 + v.1 ∧ sy = p.2 + v.2 := by
    intro hv
    obtain ⟨a1, a2⟩ := mayB_bd (show mayB p.1 p.2 = true from hp)
    obtain ⟨b1, b2⟩ := mayB_bd hv
    rw [inR_iff] at a1 a2 b1 b2
    rw [hsx, hsy]
    exact ⟨IntWalk.i64_in _ (by omega), IntWalk.i64_in _ (by omega)⟩
  have ST := Lib.hid (show stepB v p = (mayB v.1 v.2 && mayB sx sy) by
    unfold stepB
    cases hv : mayB v.1 v.2
    · unfold pmay; rw [hv]; rfl
    · obtain ⟨e1, e2⟩ := EQ hv
      rw [e1, e2]
      unfold pmay addP; rw [hv])
  have EQ2 := Lib.hid EQ
  rw [ST.out]
  have hp' : mayB p.1 p.2 = true := hp
  have HX := Lib.hid hsx.symm
  have HY := Lib.hid hsy.symm
  clear EQ hp hsx hsy
  have L0 := (fun h => Kp.add0 h w.heap.size rfl (.int .i64 p.1) (.int .i64 p.2) 28) ⟨Nat.le_refl _, Below.refl w.heap.size w⟩
  have L1 := (Kp.two (Kp.behind _ (.cells #[.int .i64 v.1, .int .i64 v.2] 28)) (fun h => Kp.add0 h (w.heap.size + 1) (by simp) (.int .i64 v.1) (.int .i64 v.2) 28)) L0
  have L2 := (Kp.two (Kp.behind _ (.cells #[.int .i64 0, .int .i64 0] 28)) (Kp.two (Kp.behind _ (.cells #[.int .i64 0, .int .i64 0] 28)) (fun h => Kp.add0 h (w.heap.size + 1 + 1) (by simp) (.int .i64 0) (.int .i64 0) 28))) L1
  have L := Lib.hid L2
  clear L0 L1 L2
  have z := L.out
  have F0 : ∀ o, (((w.alloc (.cells #[.int .i64 p.1, .int .i64 p.2] 28)).alloc (.cells #[.int .i64 v.1, .int .i64 v.2] 28)).alloc (.cells #[.int .i64 0, .int .i64 0] 28)).frozen? ⟨w.heap.size + 1 + 1, o, none⟩ = false := Kp.newsoft _ _ (by simp) _ _
  have Z0 : w.heap.size + 1 + 1 < (((w.alloc (.cells #[.int .i64 p.1, .int .i64 p.2] 28)).alloc (.cells #[.int .i64 v.1, .int .i64 v.2] 28)).alloc (.cells #[.int .i64 0, .int .i64 0] 28)).heap.size := by simp
  go_enter Try.func35, Try.ntmps35
  go_wp2_with fail
  refine (refMay_any _ _ _).mono ?_
  rintro e w1 ⟨rfl, hb1⟩
  have K1 := Lib.hid ((Kp.two hb1 (Kp.two hb1 (Kp.two hb1 (Kp.ends hb1)))) L.out)
  have z1 := K1.out
  have F1 := Kp.soft hb1 Z0 F0
  have Z1 : w.heap.size + 1 + 1 < w1.heap.size := Nat.lt_of_lt_of_le Z0 hb1.size
  clear hb1 z L F0 Z0
  go_wp2_with fail
  refine (refMay_any _ _ _).mono ?_
  rintro e w2 ⟨rfl, hb2⟩
  have K2 := Lib.hid ((Kp.two hb2 (Kp.two hb2 (Kp.two hb2 (Kp.ends hb2)))) K1.out)
  have z2 := K2.out
  have F2 := Kp.soft hb2 Z1 F1
  have Z2 : w.heap.size + 1 + 1 < w2.heap.size := Nat.lt_of_lt_of_le Z1 hb2.size
  clear hb2 z1 K1 F1 Z1
  have x1 := HX.out
  have x2 := HY.out
  have M := Lib.hid ((Kp.two (Kp.behind _ (.cells #[.int .i64 sx, .int .i64 sy] 28)) (Kp.two (Kp.behind _ (.cells #[.int .i64 sx, .int .i64 sy] 28)) (Kp.two (Kp.behind _ (.cells #[.int .i64 sx, .int .i64 sy] 28)) (fun h => Kp.add0 h w2.heap.size rfl (.int .i64 sx) (.int .i64 sy) 28)))) K2.out)
  have m := M.out
  have FM : ∀ o, (w2.alloc (.cells #[.int .i64 sx, .int .i64 sy] 28)).frozen? ⟨w.heap.size + 1 + 1, o, none⟩ = false := Kp.soft (Kp.behind _ _) Z2 F2
  have ZM : w.heap.size + 1 + 1 < (w2.alloc (.cells #[.int .i64 sx, .int .i64 sy] 28)).heap.size := by rw [World.size_alloc]; omega
  go_wp2_with fail
  clear x1 x2 HX HY
  refine (refMay_any _ _ _).mono ?_
  rintro e w3 ⟨rfl, hb3⟩
  have K3 := Lib.hid ((Kp.two hb3 (Kp.two hb3 (Kp.two hb3 (Kp.two hb3 (Kp.ends hb3))))) M.out)
  have z3 := K3.out
  have F3 := Kp.soft hb3 ZM FM
  clear hb3 M m FM K2 z2 F2 Z2 ZM
  cases hv : mayB v.1 v.2
  · go_wp2_with fail
    refine bodyPost_ret (v := .tuple #[.agg #[.int .i64 sx, .int .i64 sy], .bool (mayB v.1 v.2 && mayB sx sy)]) (by simp [results, Try.results35, go_sem, *]) rfl ⟨⟨sx, sy, rfl, fun h => by rw [hv] at h; simp at h⟩, ?_⟩
    have B := K3.out.2.2.2.2.2.2.2.2.2
    exact ((B.setCell (by simp; try omega) _).setCell (by simp; try omega) _)
  · go_wp2_with fail
    refine bodyPost_ret (v := .tuple #[.agg #[.int .i64 sx, .int .i64 sy], .bool (mayB v.1 v.2 && mayB sx sy)]) (by simp [results, Try.results35, go_sem, *]) rfl ⟨⟨sx, sy, rfl, fun _ => EQ2.out hv⟩, ?_⟩
    have B := K3.out.2.2.2.2.2.2.2.2.2
    exact ((B.setCell (by simp; try omega) _).setCell (by simp; try omega) _)

set_option maxHeartbeats 1000000 in
theorem movePoly_any (l : List Pnt) (A : Option Addr) (c : Nat) (v : Pnt) (w : World) (hA : PtsAt w w.heap.size A l) (hs : simpleB l = true) :
    Calls Try.prog 33 #[.slice A l.length c, .agg #[.int .i64 v.1, .int .i64 v.2]] w fun e w' => Below w.heap.size w w' ∧
      ((fineB l v = true ∧ ∃ g, e = .returned (.tuple #[.agg #[.int .i64 0, .int .i64 0, .int .i64 0, .int .i64 0, .slice (some ⟨g, 0, none⟩) l.length l.length], .nilIface]) ∧ PtsAt w' w'.heap.size (some ⟨g, 0, none⟩) (moveL l v) ∧ w.heap.size ≤ g) ∨
       (fineB l v = false ∧ e = .returned (.tuple #[.agg #[.int .i64 0, .int .i64 0, .int .i64 0, .int .i64 0, .slice none 0 0], .iface 37 (.int .i64 11)]))) := by
  have C := Lib.hid (fun W (h : Below w.heap.size w W) => move_new l A c v W ((hA.later h).wide h.size) hs)
  obtain ⟨n, e⟩ : ∃ n, n = l.length := ⟨_, rfl⟩
  rw [← e] at C ⊢
  clear e hA hs
  have n1 := neq_range
  have n2 := neq_nil
  have L0 := (fun h => Kp.add0 h w.heap.size rfl (.int .i64 v.1) (.int .i64 v.2) 28) ⟨Nat.le_refl _, Below.refl w.heap.size w⟩
  have L1 := (Kp.two (Kp.behind _ (.cells #[.int .i64 0, .int .i64 0, .int .i64 0, .int .i64 0, .slice none 0 0] 26)) (fun h => Kp.ad50 h (w.heap.size + 1) (by simp) (.int .i64 0) (.int .i64 0) (.int .i64 0) (.int .i64 0) (.slice none 0 0) 26)) L0
  have L := Lib.hid L1
  clear L0 L1
  have z := L.out
  have F0 : ∀ o, ((w.alloc (.cells #[.int .i64 v.1, .int .i64 v.2] 28)).alloc (.cells #[.int .i64 0, .int .i64 0, .int .i64 0, .int .i64 0, .slice none 0 0] 26)).frozen? ⟨w.heap.size + 1, o, none⟩ = false := Kp.newsoft _ _ (by simp) _ _
  have Z0 : w.heap.size + 1 < ((w.alloc (.cells #[.int .i64 v.1, .int .i64 v.2] 28)).alloc (.cells #[.int .i64 0, .int .i64 0, .int .i64 0, .int .i64 0, .slice none 0 0] 26)).heap.size := by simp
  go_enter Try.func33, Try.ntmps33
  go_wp2_with fail
  refine (C.out _ L.out.2.2.2.2.2.2.2.2).mono ?_
  rintro e w1 ⟨hb1, h⟩
  have K1 := Lib.hid ((Kp.two hb1 (Kp.two hb1 (Kp.two hb1 (Kp.one hb1 (Kp.ends hb1))))) L.out)
  have z1 := K1.out
  have F1 := Kp.soft hb1 Z0 F0
  have HZ : w.heap.size + 1 < w1.heap.size := Nat.lt_of_lt_of_le Z0 hb1.size
  clear hb1 z L F0
  rcases h with ⟨hf, g, rfl, hP, hg⟩ | ⟨hf, rfl⟩
  · have HP := Lib.hid hP
    have HG : g ≠ w.heap.size + 1 := by simp at hg; omega
    have HGw : w.heap.size ≤ g := by simp at hg; omega
    clear hP hg
    go_wp2_with fail
    refine bodyPost_ret (v := .tuple #[.agg #[.int .i64 0, .int .i64 0, .int .i64 0, .int .i64 0, .slice (some ⟨g, 0, none⟩) n n], .nilIface]) (by simp [results, Try.results33, go_sem, *]) rfl ⟨?_, Or.inl ⟨hf, g, rfl, ?_, HGw⟩⟩
    · have B := K1.out.2.2.2.2.2.2.2.2
      exact (((((B.setCell (by simp; try omega) _).setCell (by simp; try omega) _).setCell (by simp; try omega) _).setCell (by simp; try omega) _).setCell (by simp; try omega) _)
    · have Q := pts_far (o := 4) (x := .slice (some ⟨g, 0, none⟩) n n) (pts_far (o := 3) (x := .int .i64 0) (pts_far (o := 2) (x := .int .i64 0) (pts_far (o := 1) (x := .int .i64 0) (pts_far (o := 0) (x := .int .i64 0) HP.out HG) HG) HG) HG) HG
      simpa using Q
  · go_wp2_with fail
    refine bodyPost_ret (v := .tuple #[.agg #[.int .i64 0, .int .i64 0, .int .i64 0, .int .i64 0, .slice none 0 0], .iface 37 (.int .i64 11)]) (by simp [results, Try.results33, go_sem, *]) rfl ⟨?_, Or.inr ⟨hf, rfl⟩⟩
    have B := K1.out.2.2.2.2.2.2.2.2
    exact (((((B.setCell (by simp; try omega) _).setCell (by simp; try omega) _).setCell (by simp; try omega) _).setCell (by simp; try omega) _).setCell (by simp; try omega) _)

theorem add2_fine (x y : Int) (v : Pnt) (w : World) (hp : pmay (x, y) = true) (h : stepB v (x, y) = true) :
    Calls Try.prog 53 #[.agg #[.int .i64 x, .int .i64 y], .agg #[.int .i64 v.1, .int .i64 v.2]] w fun e w' => e = .returned (.tuple #[.agg #[.int .i64 (x + v.1), .int .i64 (y + v.2)], .nilIface]) ∧ Below w.heap.size w w' := add_fine (x, y) v w hp h
theorem add2_bad (x y : Int) (v : Pnt) (w : World) (hp : pmay (x, y) = true) (h : stepB v (x, y) = false) :
    Calls Try.prog 53 #[.agg #[.int .i64 x, .int .i64 y], .agg #[.int .i64 v.1, .int .i64 v.2]] w fun e w' => e = .returned (.tuple #[.agg #[.int .i64 0, .int .i64 0], .iface 37 (.int .i64 11)]) ∧ Below w.heap.size w w' := add_bad (x, y) v w hp h
theorem rmay_both {x1 y1 x2 y2 : Int} (h : rmayB x1 y1 x2 y2 = true) : pmay (x1, y1) = true ∧ pmay (x2, y2) = true := ⟨(rmayB_iff.1 h).1, (rmayB_iff.1 h).2.1⟩
set_option maxHeartbeats 1000000 in
theorem moveRect_no1 (a b c d : Int) (v : Pnt) (w : World) (hr : rmayB a b c d = true) (hs1 : stepB v (a, b) = false) :
    Calls Try.prog 34 #[.agg #[.int .i64 a, .int .i64 b, .int .i64 c, .int .i64 d], .agg #[.int .i64 v.1, .int .i64 v.2]] w fun e w' => e = .returned (.tuple #[.agg #[.int .i64 0, .int .i64 0, .int .i64 0, .int .i64 0, .slice none 0 0], .iface 37 (.int .i64 11)]) ∧ Below w.heap.size w w' := by
  have h1 := (rmay_both hr).1
  have h2 := (rmay_both hr).2
  clear hr
  have n1 := neq_range
  have n2 := neq_nil
  have L0 := (fun h => Kp.adq0 h w.heap.size rfl (.int .i64 a) (.int .i64 b) (.int .i64 c) (.int .i64 d) 23) ⟨Nat.le_refl _, Below.refl w.heap.size w⟩
  have L1 := (Kp.two (Kp.behind _ (.cells #[.int .i64 v.1, .int .i64 v.2] 28)) (Kp.two (Kp.behind _ (.cells #[.int .i64 v.1, .int .i64 v.2] 28)) (fun h => Kp.add0 h (w.heap.size + 1) (by simp) (.int .i64 v.1) (.int .i64 v.2) 28))) L0
  have L2 := (Kp.two (Kp.behind _ (.cells #[.int .i64 0, .int .i64 0, .int .i64 0, .int .i64 0, .slice none 0 0] 26)) (Kp.two (Kp.behind _ (.cells #[.int .i64 0, .int .i64 0, .int .i64 0, .int .i64 0, .slice none 0 0] 26)) (Kp.two (Kp.behind _ (.cells #[.int .i64 0, .int .i64 0, .int .i64 0, .int .i64 0, .slice none 0 0] 26)) (fun h => Kp.ad50 h (w.heap.size + 1 + 1) (by simp) (.int .i64 0) (.int .i64 0) (.int .i64 0) (.int .i64 0) (.slice none 0 0) 26)))) L1
  have L := Lib.hid L2
  clear L0 L1 L2
  have z := L.out
  have F0 : ∀ o, (((w.alloc (.cells #[.int .i64 a, .int .i64 b, .int .i64 c, .int .i64 d] 23)).alloc (.cells #[.int .i64 v.1, .int .i64 v.2] 28)).alloc (.cells #[.int .i64 0, .int .i64 0, .int .i64 0, .int .i64 0, .slice none 0 0] 26)).frozen? ⟨w.heap.size + 1 + 1, o, none⟩ = false := Kp.newsoft _ _ (by simp) _ _
  have Z0 : w.heap.size + 1 + 1 < (((w.alloc (.cells #[.int .i64 a, .int .i64 b, .int .i64 c, .int .i64 d] 23)).alloc (.cells #[.int .i64 v.1, .int .i64 v.2] 28)).alloc (.cells #[.int .i64 0, .int .i64 0, .int .i64 0, .int .i64 0, .slice none 0 0] 26)).heap.size := by simp
  go_enter Try.func34, Try.ntmps34
  go_wp2_with fail
  refine (add2_bad a b v _ h1 hs1).mono ?_
  rintro e w1 ⟨rfl, hb1⟩
  have K1 := Lib.hid ((Kp.two hb1 (Kp.two hb1 (Kp.two hb1 (Kp.two hb1 (Kp.two hb1 (Kp.one hb1 (Kp.ends hb1))))))) L.out)
  have z1 := K1.out
  have F1 := Kp.soft hb1 Z0 F0
  have Z1 : w.heap.size + 1 + 1 < w1.heap.size := Nat.lt_of_lt_of_le Z0 hb1.size
  clear hb1 z L F0 Z0
  go_wp2_with fail
  refine bodyPost_ret (v := .tuple #[.agg #[.int .i64 0, .int .i64 0, .int .i64 0, .int .i64 0, .slice none 0 0], .iface 37 (.int .i64 11)]) (by simp [results, Try.results34, go_sem, *]) rfl ⟨rfl, ?_⟩
  have B := K1.out.2.2.2.2.2.2.2.2.2.2.2.2
  exact (((((B.setCell (by simp; try omega) _).setCell (by simp; try omega) _).setCell (by simp; try omega) _).setCell (by simp; try omega) _).setCell (by simp; try omega) _).alloc (by have := B.size; simp; omega) _
set_option maxHeartbeats 1000000 in
theorem moveRect_no2 (a b c d : Int) (v : Pnt) (w : World) (hr : rmayB a b c d = true) (hs1 : stepB v (a, b) = true) (hs2 : stepB v (c, d) = false) :
    Calls Try.prog 34 #[.agg #[.int .i64 a, .int .i64 b, .int .i64 c, .int .i64 d], .agg #[.int .i64 v.1, .int .i64 v.2]] w fun e w' => e = .returned (.tuple #[.agg #[.int .i64 0, .int .i64 0, .int .i64 0, .int .i64 0, .slice none 0 0], .iface 37 (.int .i64 11)]) ∧ Below w.heap.size w w' := by
  have h1 := (rmay_both hr).1
  have h2 := (rmay_both hr).2
  clear hr
  have n1 := neq_range
  have n2 := neq_nil
  have L0 := (fun h => Kp.adq0 h w.heap.size rfl (.int .i64 a) (.int .i64 b) (.int .i64 c) (.int .i64 d) 23) ⟨Nat.le_refl _, Below.refl w.heap.size w⟩
  have L1 := (Kp.two (Kp.behind _ (.cells #[.int .i64 v.1, .int .i64 v.2] 28)) (Kp.two (Kp.behind _ (.cells #[.int .i64 v.1, .int .i64 v.2] 28)) (fun h => Kp.add0 h (w.heap.size + 1) (by simp) (.int .i64 v.1) (.int .i64 v.2) 28))) L0
  have L2 := (Kp.two (Kp.behind _ (.cells #[.int .i64 0, .int .i64 0, .int .i64 0, .int .i64 0, .slice none 0 0] 26)) (Kp.two (Kp.behind _ (.cells #[.int .i64 0, .int .i64 0, .int .i64 0, .int .i64 0, .slice none 0 0] 26)) (Kp.two (Kp.behind _ (.cells #[.int .i64 0, .int .i64 0, .int .i64 0, .int .i64 0, .slice none 0 0] 26)) (fun h => Kp.ad50 h (w.heap.size + 1 + 1) (by simp) (.int .i64 0) (.int .i64 0) (.int .i64 0) (.int .i64 0) (.slice none 0 0) 26)))) L1
  have L := Lib.hid L2
  clear L0 L1 L2
  have z := L.out
  have F0 : ∀ o, (((w.alloc (.cells #[.int .i64 a, .int .i64 b, .int .i64 c, .int .i64 d] 23)).alloc (.cells #[.int .i64 v.1, .int .i64 v.2] 28)).alloc (.cells #[.int .i64 0, .int .i64 0, .int .i64 0, .int .i64 0, .slice none 0 0] 26)).frozen? ⟨w.heap.size + 1 + 1, o, none⟩ = false := Kp.newsoft _ _ (by simp) _ _
  have Z0 : w.heap.size + 1 + 1 < (((w.alloc (.cells #[.int .i64 a, .int .i64 b, .int .i64 c, .int .i64 d] 23)).alloc (.cells #[.int .i64 v.1, .int .i64 v.2] 28)).alloc (.cells #[.int .i64 0, .int .i64 0, .int .i64 0, .int .i64 0, .slice none 0 0] 26)).heap.size := by simp
  go_enter Try.func34, Try.ntmps34
  go_wp2_with fail
  refine (add2_fine a b v _ h1 hs1).mono ?_
  rintro e w1 ⟨rfl, hb1⟩
  have K1 := Lib.hid ((Kp.two hb1 (Kp.two hb1 (Kp.two hb1 (Kp.two hb1 (Kp.two hb1 (Kp.one hb1 (Kp.ends hb1))))))) L.out)
  have z1 := K1.out
  have F1 := Kp.soft hb1 Z0 F0
  have Z1 : w.heap.size + 1 + 1 < w1.heap.size := Nat.lt_of_lt_of_le Z0 hb1.size
  clear hb1 z L F0 Z0
  have M := Lib.hid ((Kp.two (Kp.behind _ (.cells #[.int .i64 (a + v.1), .int .i64 (b + v.2)] 28)) (Kp.two (Kp.behind _ (.cells #[.int .i64 (a + v.1), .int .i64 (b + v.2)] 28)) (Kp.two (Kp.behind _ (.cells #[.int .i64 (a + v.1), .int .i64 (b + v.2)] 28)) (Kp.two (Kp.behind _ (.cells #[.int .i64 (a + v.1), .int .i64 (b + v.2)] 28)) (Kp.two (Kp.behind _ (.cells #[.int .i64 (a + v.1), .int .i64 (b + v.2)] 28)) (Kp.one (Kp.behind _ (.cells #[.int .i64 (a + v.1), .int .i64 (b + v.2)] 28)) (fun h => Kp.add0 h w1.heap.size rfl (.int .i64 (a + v.1)) (.int .i64 (b + v.2)) 28))))))) K1.out)
  have m := M.out
  have FM : ∀ o, (w1.alloc (.cells #[.int .i64 (a + v.1), .int .i64 (b + v.2)] 28)).frozen? ⟨w.heap.size + 1 + 1, o, none⟩ = false := Kp.soft (Kp.behind _ _) Z1 F1
  have ZM : w.heap.size + 1 + 1 < (w1.alloc (.cells #[.int .i64 (a + v.1), .int .i64 (b + v.2)] 28)).heap.size := by rw [World.size_alloc]; omega
  have ZW : w.heap.size + 1 + 1 < w1.heap.size := Z1
  go_wp2_with fail
  refine (add2_bad c d v _ h2 hs2).mono ?_
  rintro e w2 ⟨rfl, hb2⟩
  have K2 := Lib.hid ((Kp.two hb2 (Kp.two hb2 (Kp.two hb2 (Kp.two hb2 (Kp.two hb2 (Kp.two hb2 (Kp.one hb2 (Kp.ends hb2)))))))) M.out)
  have z2 := K2.out
  have F2 := Kp.soft hb2 ZM FM
  have Z2 : w.heap.size + 1 + 1 < w2.heap.size := Nat.lt_of_lt_of_le ZM hb2.size
  clear hb2 M m FM ZM K1 z1 F1 Z1
  go_wp2_with fail
  refine bodyPost_ret (v := .tuple #[.agg #[.int .i64 0, .int .i64 0, .int .i64 0, .int .i64 0, .slice none 0 0], .iface 37 (.int .i64 11)]) (by simp [results, Try.results34, go_sem, *]) rfl ⟨rfl, ?_⟩
  have B := K2.out.2.2.2.2.2.2.2.2.2.2.2.2.2.2
  exact (((((B.setCell (by simp; try omega) _).setCell (by simp; try omega) _).setCell (by simp; try omega) _).setCell (by simp; try omega) _).setCell (by simp; try omega) _).alloc (by have := B.size; simp; omega) _
set_option maxHeartbeats 1000000 in
theorem moveRect_yes (a b c d : Int) (v : Pnt) (w : World) (hr : rmayB a b c d = true) (hs1 : stepB v (a, b) = true) (hs2 : stepB v (c, d) = true) :
    Calls Try.prog 34 #[.agg #[.int .i64 a, .int .i64 b, .int .i64 c, .int .i64 d], .agg #[.int .i64 v.1, .int .i64 v.2]] w fun e w' => e = .returned (.tuple #[.agg #[.int .i64 (a + v.1), .int .i64 (b + v.2), .int .i64 (c + v.1), .int .i64 (d + v.2), .slice none 0 0], .nilIface]) ∧ Below w.heap.size w w' := by
  have h1 := (rmay_both hr).1
  have h2 := (rmay_both hr).2
  clear hr
  have n1 := neq_range
  have n2 := neq_nil
  have L0 := (fun h => Kp.adq0 h w.heap.size rfl (.int .i64 a) (.int .i64 b) (.int .i64 c) (.int .i64 d) 23) ⟨Nat.le_refl _, Below.refl w.heap.size w⟩
  have L1 := (Kp.two (Kp.behind _ (.cells #[.int .i64 v.1, .int .i64 v.2] 28)) (Kp.two (Kp.behind _ (.cells #[.int .i64 v.1, .int .i64 v.2] 28)) (fun h => Kp.add0 h (w.heap.size + 1) (by simp) (.int .i64 v.1) (.int .i64 v.2) 28))) L0
  have L2 := (Kp.two (Kp.behind _ (.cells #[.int .i64 0, .int .i64 0, .int .i64 0, .int .i64 0, .slice none 0 0] 26)) (Kp.two (Kp.behind _ (.cells #[.int .i64 0, .int .i64 0, .int .i64 0, .int .i64 0, .slice none 0 0] 26)) (Kp.two (Kp.behind _ (.cells #[.int .i64 0, .int .i64 0, .int .i64 0, .int .i64 0, .slice none 0 0] 26)) (fun h => Kp.ad50 h (w.heap.size + 1 + 1) (by simp) (.int .i64 0) (.int .i64 0) (.int .i64 0) (.int .i64 0) (.slice none 0 0) 26)))) L1
  have L := Lib.hid L2
  clear L0 L1 L2
  have z := L.out
  have F0 : ∀ o, (((w.alloc (.cells #[.int .i64 a, .int .i64 b, .int .i64 c, .int .i64 d] 23)).alloc (.cells #[.int .i64 v.1, .int .i64 v.2] 28)).alloc (.cells #[.int .i64 0, .int .i64 0, .int .i64 0, .int .i64 0, .slice none 0 0] 26)).frozen? ⟨w.heap.size + 1 + 1, o, none⟩ = false := Kp.newsoft _ _ (by simp) _ _
  have Z0 : w.heap.size + 1 + 1 < (((w.alloc (.cells #[.int .i64 a, .int .i64 b, .int .i64 c, .int .i64 d] 23)).alloc (.cells #[.int .i64 v.1, .int .i64 v.2] 28)).alloc (.cells #[.int .i64 0, .int .i64 0, .int .i64 0, .int .i64 0, .slice none 0 0] 26)).heap.size := by simp
  go_enter Try.func34, Try.ntmps34
  go_wp2_with fail
  refine (add2_fine a b v _ h1 hs1).mono ?_
  rintro e w1 ⟨rfl, hb1⟩
  have K1 := Lib.hid ((Kp.two hb1 (Kp.two hb1 (Kp.two hb1 (Kp.two hb1 (Kp.two hb1 (Kp.one hb1 (Kp.ends hb1))))))) L.out)
  have z1 := K1.out
  have F1 := Kp.soft hb1 Z0 F0
  have Z1 : w.heap.size + 1 + 1 < w1.heap.size := Nat.lt_of_lt_of_le Z0 hb1.size
  clear hb1 z L F0 Z0
  have M := Lib.hid ((Kp.two (Kp.behind _ (.cells #[.int .i64 (a + v.1), .int .i64 (b + v.2)] 28)) (Kp.two (Kp.behind _ (.cells #[.int .i64 (a + v.1), .int .i64 (b + v.2)] 28)) (Kp.two (Kp.behind _ (.cells #[.int .i64 (a + v.1), .int .i64 (b + v.2)] 28)) (Kp.two (Kp.behind _ (.cells #[.int .i64 (a + v.1), .int .i64 (b + v.2)] 28)) (Kp.two (Kp.behind _ (.cells #[.int .i64 (a + v.1), .int .i64 (b + v.2)] 28)) (Kp.one (Kp.behind _ (.cells #[.int .i64 (a + v.1), .int .i64 (b + v.2)] 28)) (fun h => Kp.add0 h w1.heap.size rfl (.int .i64 (a + v.1)) (.int .i64 (b + v.2)) 28))))))) K1.out)
  have m := M.out
  have FM : ∀ o, (w1.alloc (.cells #[.int .i64 (a + v.1), .int .i64 (b + v.2)] 28)).frozen? ⟨w.heap.size + 1 + 1, o, none⟩ = false := Kp.soft (Kp.behind _ _) Z1 F1
  have ZM : w.heap.size + 1 + 1 < (w1.alloc (.cells #[.int .i64 (a + v.1), .int .i64 (b + v.2)] 28)).heap.size := by rw [World.size_alloc]; omega
  have ZW : w.heap.size + 1 + 1 < w1.heap.size := Z1
  go_wp2_with fail
  refine (add2_fine c d v _ h2 hs2).mono ?_
  rintro e w2 ⟨rfl, hb2⟩
  have K2 := Lib.hid ((Kp.two hb2 (Kp.two hb2 (Kp.two hb2 (Kp.two hb2 (Kp.two hb2 (Kp.two hb2 (Kp.one hb2 (Kp.ends hb2)))))))) M.out)
  have z2 := K2.out
  have F2 := Kp.soft hb2 ZM FM
  have Z2 : w.heap.size + 1 + 1 < w2.heap.size := Nat.lt_of_lt_of_le ZM hb2.size
  clear hb2 M m FM ZM K1 z1 F1 Z1
  have MM := (Kp.two (Kp.behind _ (.cells #[.int .i64 (c + v.1), .int .i64 (d + v.2)] 28)) (Kp.two (Kp.behind _ (.cells #[.int .i64 (c + v.1), .int .i64 (d + v.2)] 28)) (Kp.two (Kp.behind _ (.cells #[.int .i64 (c + v.1), .int .i64 (d + v.2)] 28)) (Kp.two (Kp.behind _ (.cells #[.int .i64 (c + v.1), .int .i64 (d + v.2)] 28)) (Kp.two (Kp.behind _ (.cells #[.int .i64 (c + v.1), .int .i64 (d + v.2)] 28)) (Kp.two (Kp.behind _ (.cells #[.int .i64 (c + v.1), .int .i64 (d + v.2)] 28)) (Kp.one (Kp.behind _ (.cells #[.int .i64 (c + v.1), .int .i64 (d + v.2)] 28)) (fun h => Kp.add0 h w2.heap.size rfl (.int .i64 (c + v.1)) (.int .i64 (d + v.2)) 28)))))))) K2.out
  have FF : ∀ o, (w2.alloc (.cells #[.int .i64 (c + v.1), .int .i64 (d + v.2)] 28)).frozen? ⟨w.heap.size + 1 + 1, o, none⟩ = false := Kp.soft (Kp.behind _ _) Z2 F2
  go_wp2_with fail
  refine bodyPost_ret (v := .tuple #[.agg #[.int .i64 (a + v.1), .int .i64 (b + v.2), .int .i64 (c + v.1), .int .i64 (d + v.2), .slice none 0 0], .nilIface]) (by simp [results, Try.results34, go_sem, *]) rfl ⟨rfl, ?_⟩
  have B := K2.out.2.2.2.2.2.2.2.2.2.2.2.2.2.2
  exact (((((B.setCell (by simp; try omega) _).setCell (by simp; try omega) _).setCell (by simp; try omega) _).setCell (by simp; try omega) _).setCell (by simp; try omega) _).alloc (by have := B.size; simp; omega) _
end Go.Proofs.Ytiggjaodfmelpaa.Rg
