/-
  The walk of the statement PolyMoves: whatever points it is given, it returns true, and memory that was there is left as it was.
-/
import Derived.Test.YtoijgppkpagelaaPlUp
import Derived.Test.YtoijgppkpagelaaPlRefS
import Derived.Test.YtoijgppkpagelaaPlMove
import Derived.Test.YtoijgppkpagelaaCode
namespace Go.Proofs.Ytoijgppkpagelaa.Pl
open Go.RowKit Go.Proofs.Ytoijgppkpagelaa.Pt Go.Proofs.Ytoijgppkpagelaa.Rc Go.Proofs.Ytoijgppkpagelaa.Pts
set_option linter.unusedVariables false

theorem eql_arg (w : World) : (binOp .eql 32 (.iface 35 (.int .i64 1)) (.iface 35 (.int .i64 1))).run Try.prog w = .ok (.bool true) w := by kernel_rfl

/-- May the first k be moved? -/
def fineTo (l : List Pnt) (d : Pnt) (k : Nat) : Bool := pmay d && (l.take k).all fun p => pmay (addP p d)
theorem fineTo_zero (l : List Pnt) (d : Pnt) : fineTo l d 0 = mayB d.1 d.2 := by unfold fineTo pmay; simp
theorem fineTo_all (l : List Pnt) (d : Pnt) : fineTo l d l.length = fineB l d := by unfold fineTo fineB; rw [List.take_of_length_le (Nat.le_refl _)]
theorem may_bd2 {p : Pnt} (h : pmay p = true) : (-1073741824 ≤ p.1 ∧ p.1 ≤ 1073741824) ∧ (-1073741824 ≤ p.2 ∧ p.2 ≤ 1073741824) := by
  obtain ⟨h1, h2⟩ := mayB_iff.1 h
  exact ⟨inR_iff.1 h1, inR_iff.1 h2⟩
theorem sum_bd {p d : Pnt} (hp : pmay p = true) (hd : pmay d = true) : (-2147483648 ≤ p.1 + d.1 ∧ p.1 + d.1 ≤ 2147483648) ∧ (-2147483648 ≤ p.2 + d.2 ∧ p.2 + d.2 ≤ 2147483648) := by
  have := may_bd2 hp; have := may_bd2 hd; omega
theorem fine_step {l : List Pnt} {d : Pnt} {k : Nat} (hk : k < l.length) (hm : l.all pmay = true) (sx sy : Int) (hx : sx = IntKind.i64.wrap (l[k].1 + d.1)) (hy : sy = IntKind.i64.wrap (l[k].2 + d.2)) :
    fineTo l d (k + 1) = (fineTo l d k && mayB sx sy) := by
  cases hd : pmay d
  · unfold fineTo; rw [hd]; rfl
  · have b := sum_bd (List.all_eq_true.1 hm _ (List.getElem_mem hk)) hd
    rw [IntWalk.i64_in _ (by omega)] at hx hy
    subst hx hy
    unfold fineTo
    rw [hd, List.take_succ_eq_append_getElem hk, List.all_append]
    simp [pmay, addP]
theorem fine_d {l : List Pnt} {d : Pnt} (h : fineB l d = true) : pmay d = true := by
  unfold fineB at h
  rw [Bool.and_eq_true] at h
  exact h.1
theorem moved_cells {W : World} {B g : Nat} {l : List Pnt} {d : Pnt} (h : PtsAt W B (some ⟨g, 0, none⟩) (moveL l d)) (h0 : 0 < l.length) :
    ∀ (k : Nat) (hk : k < l.length), W.cell? ⟨g, k * 2, none⟩ = some (.int .i64 (l[k].1 + d.1)) ∧ W.cell? ⟨g, k * 2 + 1, none⟩ = some (.int .i64 (l[k].2 + d.2)) := fun k hk => by
  have hl : (moveL l d).length = l.length := by unfold moveL; rw [List.length_map]
  obtain ⟨b, off, e, _, hc⟩ := h (by intro e; rw [e] at hl; simp at hl; omega)
  simp at e
  obtain ⟨rfl, rfl⟩ := e
  have := hc k (by rw [hl]; exact hk)
  unfold moveL addP at this
  simpa using this
def FineRel (v : World) (l : List Pnt) (d : Pnt) (f i : Value) (wr : World) : Prop := ∃ k : Nat, k ≤ l.length ∧ f = .bool (fineTo l d k) ∧ i = .int .i64 k ∧ Below v.heap.size v wr
def EqRel (v : World) (l : List Pnt) (i : Value) (wr : World) : Prop := ∃ k : Nat, k ≤ l.length ∧ i = .int .i64 k ∧ Below v.heap.size v wr

theorem moves_far (A : Option Addr) (n c : Nat) (d : Pnt) (w : World) (h : 70 < n) (hn : n ≤ maxLen) : Calls Try.prog 4 #[.slice A n c, .agg #[.int .i64 d.1, .int .i64 d.2]] w fun e w' => e = .returned (.bool true) ∧ Below w.heap.size w w' := by
  unfold maxLen at hn
  have h' : (70 : Int) < (n : Int) := by omega
  have L := Lib.hid (Kp.add0 ⟨Nat.le_refl _, Below.refl w.heap.size w⟩ w.heap.size rfl (.int .i64 d.1) (.int .i64 d.2) 24)
  go_enter Try.func4, Try.ntmps4
  go_wp2_with fail
  refine (up_any _).mono ?_
  rintro e w1 ⟨rfl, hb1⟩
  have K1 := Kp.keep2 hb1 L.out
  clear hb1 L
  go_wp2_with fail
  go_ret
  exact ⟨rfl, Kp.end2 K1⟩

set_option maxHeartbeats 1000000 in
theorem moves_arg (l : List Pnt) (A : Option Addr) (c : Nat) (d : Pnt) (w : World) (hA : PtsAt w w.heap.size A l) (hn : l.length ≤ 70) (hs : simpleB l = false) :
    Calls Try.prog 4 #[.slice A l.length c, .agg #[.int .i64 d.1, .int .i64 d.2]] w fun e w' => e = .returned (.bool true) ∧ Below w.heap.size w w' := by
  have C1 := Lib.hid (fun W (h : Below w.heap.size w W) => move_arg l A c d W ((hA.later h).wide h.size) hn hs)
  have C2 := Lib.hid (fun W (h : Below w.heap.size w W) => refSimple_any l A c W ((hA.later h).wide h.size) hn)
  rw [hs] at C2
  obtain ⟨n, e⟩ : ∃ n, n = l.length := ⟨_, rfl⟩
  rw [← e] at hn C1 C2 ⊢
  clear e hA hs
  have h' : (n : Int) ≤ 70 := by omega
  have ea := eql_arg
  have L := Lib.hid (Kp.add0 ⟨Nat.le_refl _, Below.refl w.heap.size w⟩ w.heap.size rfl (.int .i64 d.1) (.int .i64 d.2) 24)
  go_enter Try.func4, Try.ntmps4
  go_wp2_with fail
  refine (up_any _).mono ?_
  rintro e w1 ⟨rfl, hb1⟩
  have K1 := Kp.keep2 hb1 L.out
  clear hb1 L
  go_wp2_with fail
  refine (C1.out _ (Kp.end2 K1)).mono ?_
  rintro e w2 ⟨rfl, hb2⟩
  have K2 := Kp.keep2 hb2 K1
  clear hb2 K1
  go_wp2_with fail
  refine (C2.out _ (Kp.end2 K2)).mono ?_
  rintro e w3 ⟨rfl, hb3⟩
  have K3 := Kp.keep2 hb3 K2
  clear hb3 K2
  go_wp2_with fail
  refine (refMay_any _ _ _).mono ?_
  rintro e w4 ⟨rfl, hb4⟩
  have K4 := Kp.keep2 hb4 K3
  clear hb4 K3
  go_wp2_with fail
  go_ret
  exact ⟨rfl, Kp.end2 K4⟩

set_option maxRecDepth 100000 in
set_option maxHeartbeats 4000000 in
theorem moves_some (l : List Pnt) (A : Option Addr) (c : Nat) (d : Pnt) (w : World) (hA : PtsAt w w.heap.size A l) (hs : simpleB l = true) :
    Calls Try.prog 4 #[.slice A l.length c, .agg #[.int .i64 d.1, .int .i64 d.2]] w fun e w' => e = .returned (.bool true) ∧ Below w.heap.size w w' := by
  obtain ⟨hm, h3, hn⟩ := simpleB_all hs
  have C1 := Lib.hid (fun W (h : Below w.heap.size w W) => move_some l A c d W ((hA.later h).wide h.size) hs)
  have C2 := Lib.hid (fun W (h : Below w.heap.size w W) => refSimple_any l A c W ((hA.later h).wide h.size) (by omega))
  rw [hs] at C2
  obtain ⟨b, off, rfl, hbw, hc⟩ := hA (by intro h; subst h; simp at h3)
  have HC0 := Lib.hid hc
  have HM := Lib.hid hm
  have ML := Lib.hid (show (moveL l d).length = l.length by unfold moveL; rw [List.length_map])
  obtain ⟨n, e⟩ : ∃ n, n = l.length := ⟨_, rfl⟩
  rw [← e] at h3 hn C1 C2 ⊢
  have E := Lib.hid e
  clear e hA hs hm hc
  have h' : (n : Int) ≤ 70 := by omega
  have n1 := neq_nil
  have L := Lib.hid (Kp.add0 ⟨Nat.le_refl _, Below.refl w.heap.size w⟩ w.heap.size rfl (.int .i64 d.1) (.int .i64 d.2) 24)
  go_enter Try.func4, Try.ntmps4
  go_wp2_with fail
  refine (up_any _).mono ?_
  rintro e w1 ⟨rfl, hb1⟩
  have K1 := Kp.keep2 hb1 L.out
  clear hb1 L
  go_wp2_with fail
  refine (C1.out _ (Kp.end2 K1)).mono ?_
  rintro e w2 ⟨hb2, hres⟩
  have K2 := Kp.keep2 hb2 K1
  clear hb2 K1
  rcases hres with ⟨hfine, g, rfl, hM⟩ | ⟨hfine, rfl⟩
  · have FB := Lib.hid hfine
    clear hfine
    go_wp2_with fail
    refine (C2.out _ (Kp.end2 K2)).mono ?_
    rintro e w3 ⟨rfl, hb3⟩
    have K3 := Kp.keep2 hb3 K2
    have hM3 := (hM.later hb3).wide hb3.size
    go_wp2_with fail
    refine (refMay_any _ _ _).mono ?_
    rintro e v ⟨rfl, hb4⟩
    have K4 := Kp.keep2 hb4 K3
    have MC := Lib.hid (moved_cells ((hM3.later hb4).wide hb4.size) (by have := E.out; omega)); clear hM hM3
    have BV := Lib.hid (Kp.end2 K4)
    have Z := Lib.hid (show v.cell? ⟨w.heap.size, 0, none⟩ = some (.int .i64 d.1) ∧ v.cell? ⟨w.heap.size, 1, none⟩ = some (.int .i64 d.2) from ⟨K4.1, K4.2.1⟩)
    have HC := Lib.hid (show ∀ (k : Nat) (h : k < l.length), v.cell? ⟨b, off + k * 2, none⟩ = some (.int .i64 l[k].1) ∧ v.cell? ⟨b, off + k * 2 + 1, none⟩ = some (.int .i64 l[k].2) from fun k hk => ⟨((Kp.end2 K4).cell (p := ⟨b, off + k * 2, none⟩) hbw).trans (HC0.out k hk).1, ((Kp.end2 K4).cell (p := ⟨b, off + k * 2 + 1, none⟩) hbw).trans (HC0.out k hk).2⟩)
    have hb : b < v.heap.size := Nat.lt_of_lt_of_le hbw BV.out.size
    clear hb3 hb4 K2 K3 K4 HC0
    go_wp2_with fail
    go_loopw [9, 10] (fun f i wr => FineRel v l d f i wr) (fun _ i _ => n - (intOf i).toNat)
    case atStart => exact ⟨0, Nat.zero_le _, by rw [fineTo_zero], rfl, Below.refl _ _⟩
    case round =>
      obtain ⟨k, hk, rfl, rfl, hB⟩ := hrel
      by_cases hlt : k < n
      · have hkl : k < l.length := by rw [← E.out]; exact hlt
        obtain ⟨a, ha⟩ : ∃ a, a = l[k] := ⟨_, rfl⟩
        have K0 : wr.cell? ⟨w.heap.size, 0, none⟩ = some (.int .i64 d.1) ∧ wr.cell? ⟨w.heap.size, 1, none⟩ = some (.int .i64 d.2) ∧ wr.cell? ⟨b, off + k * 2, none⟩ = some (.int .i64 a.1) ∧ wr.cell? ⟨b, off + k * 2 + 1, none⟩ = some (.int .i64 a.2) ∧ v.heap.size ≤ wr.heap.size ∧ Below v.heap.size v wr := by
          rw [ha]
          exact ⟨cell_later hB Z.out.1, cell_later hB Z.out.2, (hB.cell (p := ⟨b, off + k * 2, none⟩) hb).trans (HC.out k hkl).1, (hB.cell (p := ⟨b, off + k * 2 + 1, none⟩) hb).trans (HC.out k hkl).2, hB.size, hB⟩
        obtain ⟨sx, hsx⟩ : ∃ s, s = IntKind.i64.wrap (a.1 + d.1) := ⟨_, rfl⟩
        obtain ⟨sy, hsy⟩ : ∃ s, s = IntKind.i64.wrap (a.2 + d.2) := ⟨_, rfl⟩
        have STEP := Lib.hid (fine_step (l := l) (d := d) (k := k) hkl HM.out sx sy (by rw [hsx, ha]) (by rw [hsy, ha]))
        have x1 := hsx.symm
        have x2 := hsy.symm
        have HK0 := Lib.hid K0
        clear ha hsx hsy K0
        have hk0 : (0 : Int) ≤ (k : Int) := by omega
        have hk1 : (k : Int) < (n : Int) := by omega
        go_wp2_with fail
        refine wp_region_held_drew (S := (fun W => W.cell? ⟨w.heap.size, 0, none⟩ = some (.int .i64 d.1) ∧ W.cell? ⟨w.heap.size, 1, none⟩ = some (.int .i64 d.2) ∧ W.cell? ⟨b, off + k * 2, none⟩ = some (.int .i64 a.1) ∧ W.cell? ⟨b, off + k * 2 + 1, none⟩ = some (.int .i64 a.2) ∧ v.heap.size ≤ W.heap.size ∧ Below v.heap.size v W)) (by kernel_rfl) (Kp.drew4 HK0.out) (fun hHeld => ?_)
        refine wpAnyH_take (i := 0) (v := ?vA0) rfl (by kernel_rfl) (by kernel_rfl) (by kernel_rfl) (fun _ _ _ h => h) (Or.inl ⟨by rfl, ?yA0⟩) hHeld ?rA0
        case yA0 => (intro W hSw; simp only [List.getElem_toArray, List.getElem_cons_zero]; go_simp; try (with_reducible rfl))
        simp only [List.getElem_toArray, List.getElem_cons_zero, Act.put, List.setIfInBounds_toArray, List.set_cons_zero, List.set_cons_succ]
        refine wpAnyH_take (i := 1) (v := ?vA1) rfl (by kernel_rfl) (by kernel_rfl) (by kernel_rfl) (fun _ _ _ h => h) (Or.inl ⟨by rfl, ?yA1⟩) hHeld ?rA1
        case yA1 => (intro W hSw; simp only [List.getElem_toArray, List.getElem_cons_succ, List.getElem_cons_zero]; go_simp; try (with_reducible rfl))
        simp only [List.getElem_toArray, List.getElem_cons_succ, List.getElem_cons_zero, Act.put, List.setIfInBounds_toArray, List.set_cons_zero, List.set_cons_succ]
        refine wpAnyH_take (i := 2) (v := ?vA2) rfl (by kernel_rfl) (by kernel_rfl) (by kernel_rfl) (fun _ _ _ h => h) (Or.inl ⟨by rfl, ?yA2⟩) hHeld ?rA2
        case yA2 => (intro W hSw; simp only [List.getElem_toArray, List.getElem_cons_succ, List.getElem_cons_zero]; go_simp; try (with_reducible rfl))
        simp only [List.getElem_toArray, List.getElem_cons_succ, List.getElem_cons_zero, Act.put, List.setIfInBounds_toArray, List.set_cons_zero, List.set_cons_succ]
        refine wpAnyH_take (i := 3) (v := ?vA3) rfl (by kernel_rfl) (by kernel_rfl) (by kernel_rfl) (fun _ _ _ h => h) (Or.inl ⟨by rfl, ?yA3⟩) hHeld ?rA3
        case yA3 => (intro W hSw; simp only [List.getElem_toArray, List.getElem_cons_succ, List.getElem_cons_zero]; go_simp; try (with_reducible rfl))
        simp only [List.getElem_toArray, List.getElem_cons_succ, List.getElem_cons_zero, Act.put, List.setIfInBounds_toArray, List.set_cons_zero, List.set_cons_succ]
        refine wpAnyH_take (i := 4) (v := ?vA4) rfl (by kernel_rfl) (by kernel_rfl) (by kernel_rfl) (fun _ _ _ h => h) (Or.inl ⟨by rfl, ?yA4⟩) hHeld ?rA4
        case yA4 => (intro W hSw; simp only [List.getElem_toArray, List.getElem_cons_succ, List.getElem_cons_zero]; go_simp; try (with_reducible rfl))
        simp only [List.getElem_toArray, List.getElem_cons_succ, List.getElem_cons_zero, Act.put, List.setIfInBounds_toArray, List.set_cons_zero, List.set_cons_succ]
        refine wpAnyH_take (i := 5) (v := ?vA5) rfl (by kernel_rfl) (by kernel_rfl) (by kernel_rfl) (fun _ _ _ h => h) (Or.inl ⟨by rfl, ?yA5⟩) hHeld ?rA5
        case yA5 => (intro W hSw; simp only [List.getElem_toArray, List.getElem_cons_succ, List.getElem_cons_zero]; go_simp; try (with_reducible rfl))
        simp only [List.getElem_toArray, List.getElem_cons_succ, List.getElem_cons_zero, Act.put, List.setIfInBounds_toArray, List.set_cons_zero, List.set_cons_succ]
        refine wpAnyH_take (i := 6) (v := ?vA6) rfl (by kernel_rfl) (by kernel_rfl) (by kernel_rfl) (fun _ _ _ h => h) (Or.inl ⟨by rfl, ?yA6⟩) hHeld ?rA6
        case yA6 => (intro W hSw; simp only [List.getElem_toArray, List.getElem_cons_succ, List.getElem_cons_zero]; go_simp; try (with_reducible rfl))
        simp only [List.getElem_toArray, List.getElem_cons_succ, List.getElem_cons_zero, Act.put, List.setIfInBounds_toArray, List.set_cons_zero, List.set_cons_succ]
        refine wpAnyH_take (i := 7) (v := ?vA7) rfl (by kernel_rfl) (by kernel_rfl) (by kernel_rfl) (fun _ _ _ h => h) (Or.inl ⟨by rfl, ?yA7⟩) hHeld ?rA7
        case yA7 => (intro W hSw; simp only [List.getElem_toArray, List.getElem_cons_succ, List.getElem_cons_zero]; go_simp; try (with_reducible rfl))
        simp only [List.getElem_toArray, List.getElem_cons_succ, List.getElem_cons_zero, Act.put, List.setIfInBounds_toArray, List.set_cons_zero, List.set_cons_succ]
        refine wpAnyH_take (i := 8) (v := ?vA8) rfl (by kernel_rfl) (by kernel_rfl) (by kernel_rfl) (fun _ _ _ h => h) (Or.inl ⟨by rfl, ?yA8⟩) hHeld ?rA8
        case yA8 => (intro W hSw; simp only [List.getElem_toArray, List.getElem_cons_succ, List.getElem_cons_zero]; go_simp; try (with_reducible rfl))
        simp only [List.getElem_toArray, List.getElem_cons_succ, List.getElem_cons_zero, Act.put, List.setIfInBounds_toArray, List.set_cons_zero, List.set_cons_succ]
        refine wpAnyH_take (i := 9) (v := ?vA9) rfl (by kernel_rfl) (by kernel_rfl) (by kernel_rfl) (fun _ _ _ h => h) (Or.inl ⟨by rfl, ?yA9⟩) hHeld ?rA9
        case yA9 => (intro W hSw; simp only [List.getElem_toArray, List.getElem_cons_succ, List.getElem_cons_zero]; go_simp; try (with_reducible rfl))
        simp only [List.getElem_toArray, List.getElem_cons_succ, List.getElem_cons_zero, Act.put, List.setIfInBounds_toArray, List.set_cons_zero, List.set_cons_succ]
        refine wpAnyH_take (i := 10) (v := ?vA10) rfl (by kernel_rfl) (by kernel_rfl) (by kernel_rfl) (fun _ _ _ h => h) (Or.inl ⟨by rfl, ?yA10⟩) hHeld ?rA10
        case yA10 => (intro W hSw; simp only [List.getElem_toArray, List.getElem_cons_succ, List.getElem_cons_zero]; go_simp; try (with_reducible rfl))
        simp only [List.getElem_toArray, List.getElem_cons_succ, List.getElem_cons_zero, Act.put, List.setIfInBounds_toArray, List.set_cons_zero, List.set_cons_succ]
        refine wpAnyH_take (i := 11) (v := ?vA11) rfl (by kernel_rfl) (by kernel_rfl) (by kernel_rfl) (fun _ _ _ h => h) (Or.inl ⟨by rfl, ?yA11⟩) hHeld ?rA11
        case yA11 => (intro W hSw; simp only [List.getElem_toArray, List.getElem_cons_succ, List.getElem_cons_zero]; go_simp; try (with_reducible rfl))
        simp only [List.getElem_toArray, List.getElem_cons_succ, List.getElem_cons_zero, Act.put, List.setIfInBounds_toArray, List.set_cons_zero, List.set_cons_succ]
        refine wpAnyH_take (i := 12) (v := ?vA12) rfl (by kernel_rfl) (by kernel_rfl) (by kernel_rfl) (fun _ _ _ h => h) (Or.inl ⟨by rfl, ?yA12⟩) hHeld ?rA12
        case yA12 => (intro W hSw; simp only [List.getElem_toArray, List.getElem_cons_succ, List.getElem_cons_zero]; go_simp; try (with_reducible rfl))
        simp only [List.getElem_toArray, List.getElem_cons_succ, List.getElem_cons_zero, Act.put, List.setIfInBounds_toArray, List.set_cons_zero, List.set_cons_succ]
        refine wpAnyH_take (i := 13) (v := ?vA13) rfl (by kernel_rfl) (by kernel_rfl) (by kernel_rfl) (fun _ _ _ h => h) (Or.inl ⟨by rfl, ?yA13⟩) hHeld ?rA13
        case yA13 => (intro W hSw; simp only [List.getElem_toArray, List.getElem_cons_succ, List.getElem_cons_zero]; go_simp; try (with_reducible rfl))
        simp only [List.getElem_toArray, List.getElem_cons_succ, List.getElem_cons_zero, Act.put, List.setIfInBounds_toArray, List.set_cons_zero, List.set_cons_succ]
        refine wpAnyH_take (i := 14) (v := ?vA14) rfl (by kernel_rfl) (by kernel_rfl) (by kernel_rfl) (fun _ _ _ h => h) (Or.inl ⟨by rfl, ?yA14⟩) hHeld ?rA14
        case yA14 => (intro W hSw; simp only [List.getElem_toArray, List.getElem_cons_succ, List.getElem_cons_zero]; go_simp; try (with_reducible rfl))
        simp only [List.getElem_toArray, List.getElem_cons_succ, List.getElem_cons_zero, Act.put, List.setIfInBounds_toArray, List.set_cons_zero, List.set_cons_succ]
        refine wpAnyH_take (i := 15) (v := ?vA15) rfl (by kernel_rfl) (by kernel_rfl) (by kernel_rfl) (fun _ _ _ h => h) (Or.inl ⟨by rfl, ?yA15⟩) hHeld ?rA15
        case yA15 => (intro W hSw; simp only [List.getElem_toArray, List.getElem_cons_succ, List.getElem_cons_zero]; go_simp; try (with_reducible rfl))
        simp only [List.getElem_toArray, List.getElem_cons_succ, List.getElem_cons_zero, Act.put, List.setIfInBounds_toArray, List.set_cons_zero, List.set_cons_succ]
        refine wpAnyH_take (i := 16) (v := ?vA16) rfl (by kernel_rfl) (by kernel_rfl) (by kernel_rfl) (fun _ _ _ h => h) (Or.inl ⟨by rfl, ?yA16⟩) hHeld ?rA16
        case yA16 => (intro W hSw; simp only [List.getElem_toArray, List.getElem_cons_succ, List.getElem_cons_zero]; go_simp; try (with_reducible rfl))
        simp only [List.getElem_toArray, List.getElem_cons_succ, List.getElem_cons_zero, Act.put, List.setIfInBounds_toArray, List.set_cons_zero, List.set_cons_succ]
        refine wpAnyH_ready (rs := [17]) (by kernel_rfl) (by simp) (AllReadyH.cons rfl (fun K hK => ?_) AllReadyH.nil)
        simp only [List.getElem_toArray, List.getElem_cons_succ, List.getElem_cons_zero]
        go_simp
        (go_at_call 9; refine (refMay_any _ _ _).mono ?_; rintro e w9 ⟨rfl, hb1⟩)
        try go_wp2_with fail
        refine hK.out _ _ (Kp.keep4 hb1 hHeld) (fun hHeld1 => ?_)
        clear hK K hHeld
        have hHeld := hHeld1; clear hHeld1
        try simp only [List.getElem_toArray, List.getElem_cons_succ, List.getElem_cons_zero, Act.put, List.setIfInBounds_toArray, List.set_cons_zero, List.set_cons_succ]
        refine wpAnyH_take (i := 18) (v := ?vA18) rfl (by kernel_rfl) (by kernel_rfl) (by kernel_rfl) (fun _ _ _ h => h) (Or.inl ⟨by rfl, ?yA18⟩) hHeld ?rA18
        case yA18 => (intro W hSw; simp only [List.getElem_toArray, List.getElem_cons_succ, List.getElem_cons_zero]; go_simp; try (with_reducible rfl))
        simp only [List.getElem_toArray, List.getElem_cons_succ, List.getElem_cons_zero, Act.put, List.setIfInBounds_toArray, List.set_cons_zero, List.set_cons_succ]
        refine wpAnyH_done (by kernel_rfl) ?_ _
        have B1 := Kp.end4 hHeld
        clear hHeld HK0
        cases hF : fineTo l d k
        · go_wp2_with fail
          go_roundw
          case rel => exact ⟨k + 1, by omega, by rw [STEP.out, hF]; rfl, by go_num, B1⟩
          case measure => simp [intOf]; omega
        · go_wp2_with fail
          go_roundw
          case rel => exact ⟨k + 1, by omega, by rw [STEP.out, hF]; simp, by go_num, B1⟩
          case measure => simp [intOf]; omega
      · have hkn : k = n := by have := E.out; omega
        have HF := Lib.hid (show fineTo l d k = fineB l d by rw [hkn, E.out, fineTo_all])
        clear hkn
        rw [HF.out, FB.out]
        go_wp2_with fail
        go_loopw [12] (fun i wr => EqRel v l i wr) (fun i _ => n - (intOf i).toNat)
        case atStart => exact ⟨0, Nat.zero_le _, rfl, hB⟩
        case round =>
          clear hB
          obtain ⟨k, hk, rfl, hB⟩ := hrel
          by_cases hlt : k < n
          · have hkl : k < l.length := by rw [← E.out]; exact hlt
            obtain ⟨a, ha⟩ : ∃ a, a = l[k] := ⟨_, rfl⟩
            have HK0 := Lib.hid (show wr.cell? ⟨w.heap.size, 0, none⟩ = some (.int .i64 d.1) ∧ wr.cell? ⟨w.heap.size, 1, none⟩ = some (.int .i64 d.2) ∧ wr.cell? ⟨b, off + k * 2, none⟩ = some (.int .i64 a.1) ∧ wr.cell? ⟨b, off + k * 2 + 1, none⟩ = some (.int .i64 a.2) ∧ wr.cell? ⟨g, k * 2, none⟩ = some (.int .i64 (a.1 + d.1)) ∧ wr.cell? ⟨g, k * 2 + 1, none⟩ = some (.int .i64 (a.2 + d.2)) ∧ v.heap.size ≤ wr.heap.size ∧ Below v.heap.size v wr by
              rw [ha]
              exact ⟨cell_later hB Z.out.1, cell_later hB Z.out.2, (hB.cell (p := ⟨b, off + k * 2, none⟩) hb).trans (HC.out k hkl).1, (hB.cell (p := ⟨b, off + k * 2 + 1, none⟩) hb).trans (HC.out k hkl).2, cell_later hB (MC.out k hkl).1, cell_later hB (MC.out k hkl).2, hB.size, hB⟩)
            have bd := sum_bd (List.all_eq_true.1 HM.out _ (List.getElem_mem hkl)) (fine_d FB.out)
            rw [← ha] at bd
            have x1 := IntWalk.i64_in (a.1 + d.1) (by omega)
            have x2 := IntWalk.i64_in (a.2 + d.2) (by omega)
            clear ha bd
            have hk0 : (0 : Int) ≤ (k : Int) := by omega
            have hk1 : (k : Int) < (n : Int) := by omega
            go_wp2_with fail
            refine wp_region_held_drew (S := (fun W => W.cell? ⟨w.heap.size, 0, none⟩ = some (.int .i64 d.1) ∧ W.cell? ⟨w.heap.size, 1, none⟩ = some (.int .i64 d.2) ∧ W.cell? ⟨b, off + k * 2, none⟩ = some (.int .i64 a.1) ∧ W.cell? ⟨b, off + k * 2 + 1, none⟩ = some (.int .i64 a.2) ∧ W.cell? ⟨g, k * 2, none⟩ = some (.int .i64 (a.1 + d.1)) ∧ W.cell? ⟨g, k * 2 + 1, none⟩ = some (.int .i64 (a.2 + d.2)) ∧ v.heap.size ≤ W.heap.size ∧ Below v.heap.size v W)) (by kernel_rfl) (Kp.drew6 HK0.out) (fun hHeld => ?_)
            refine wpAnyH_take (i := 0) (v := ?vQ0) rfl (by kernel_rfl) (by kernel_rfl) (by kernel_rfl) (fun _ _ _ h => h) (Or.inl ⟨by rfl, ?yQ0⟩) hHeld ?rQ0
            case yQ0 => (intro W hSw; simp only [List.getElem_toArray, List.getElem_cons_zero]; go_simp; try (with_reducible rfl))
            simp only [List.getElem_toArray, List.getElem_cons_zero, Act.put, List.setIfInBounds_toArray, List.set_cons_zero, List.set_cons_succ]
            refine wpAnyH_take (i := 1) (v := ?vQ1) rfl (by kernel_rfl) (by kernel_rfl) (by kernel_rfl) (fun _ _ _ h => h) (Or.inl ⟨by rfl, ?yQ1⟩) hHeld ?rQ1
            case yQ1 => (intro W hSw; simp only [List.getElem_toArray, List.getElem_cons_succ, List.getElem_cons_zero]; go_simp; try (with_reducible rfl))
            simp only [List.getElem_toArray, List.getElem_cons_succ, List.getElem_cons_zero, Act.put, List.setIfInBounds_toArray, List.set_cons_zero, List.set_cons_succ]
            refine wpAnyH_take (i := 2) (v := ?vQ2) rfl (by kernel_rfl) (by kernel_rfl) (by kernel_rfl) (fun _ _ _ h => h) (Or.inl ⟨by rfl, ?yQ2⟩) hHeld ?rQ2
            case yQ2 => (intro W hSw; simp only [List.getElem_toArray, List.getElem_cons_succ, List.getElem_cons_zero]; go_simp; try (with_reducible rfl))
            simp only [List.getElem_toArray, List.getElem_cons_succ, List.getElem_cons_zero, Act.put, List.setIfInBounds_toArray, List.set_cons_zero, List.set_cons_succ]
            refine wpAnyH_take (i := 3) (v := ?vQ3) rfl (by kernel_rfl) (by kernel_rfl) (by kernel_rfl) (fun _ _ _ h => h) (Or.inl ⟨by rfl, ?yQ3⟩) hHeld ?rQ3
            case yQ3 => (intro W hSw; simp only [List.getElem_toArray, List.getElem_cons_succ, List.getElem_cons_zero]; go_simp; try (with_reducible rfl))
            simp only [List.getElem_toArray, List.getElem_cons_succ, List.getElem_cons_zero, Act.put, List.setIfInBounds_toArray, List.set_cons_zero, List.set_cons_succ]
            refine wpAnyH_take (i := 4) (v := ?vQ4) rfl (by kernel_rfl) (by kernel_rfl) (by kernel_rfl) (fun _ _ _ h => h) (Or.inl ⟨by rfl, ?yQ4⟩) hHeld ?rQ4
            case yQ4 => (intro W hSw; simp only [List.getElem_toArray, List.getElem_cons_succ, List.getElem_cons_zero]; go_simp; try (with_reducible rfl))
            simp only [List.getElem_toArray, List.getElem_cons_succ, List.getElem_cons_zero, Act.put, List.setIfInBounds_toArray, List.set_cons_zero, List.set_cons_succ]
            refine wpAnyH_take (i := 5) (v := ?vQ5) rfl (by kernel_rfl) (by kernel_rfl) (by kernel_rfl) (fun _ _ _ h => h) (Or.inl ⟨by rfl, ?yQ5⟩) hHeld ?rQ5
            case yQ5 => (intro W hSw; simp only [List.getElem_toArray, List.getElem_cons_succ, List.getElem_cons_zero]; go_simp; try (with_reducible rfl))
            simp only [List.getElem_toArray, List.getElem_cons_succ, List.getElem_cons_zero, Act.put, List.setIfInBounds_toArray, List.set_cons_zero, List.set_cons_succ]
            refine wpAnyH_take (i := 6) (v := ?vQ6) rfl (by kernel_rfl) (by kernel_rfl) (by kernel_rfl) (fun _ _ _ h => h) (Or.inl ⟨by rfl, ?yQ6⟩) hHeld ?rQ6
            case yQ6 => (intro W hSw; simp only [List.getElem_toArray, List.getElem_cons_succ, List.getElem_cons_zero]; go_simp; try (with_reducible rfl))
            simp only [List.getElem_toArray, List.getElem_cons_succ, List.getElem_cons_zero, Act.put, List.setIfInBounds_toArray, List.set_cons_zero, List.set_cons_succ]
            refine wpAnyH_take (i := 7) (v := ?vQ7) rfl (by kernel_rfl) (by kernel_rfl) (by kernel_rfl) (fun _ _ _ h => h) (Or.inl ⟨by rfl, ?yQ7⟩) hHeld ?rQ7
            case yQ7 => (intro W hSw; simp only [List.getElem_toArray, List.getElem_cons_succ, List.getElem_cons_zero]; go_simp; try (with_reducible rfl))
            simp only [List.getElem_toArray, List.getElem_cons_succ, List.getElem_cons_zero, Act.put, List.setIfInBounds_toArray, List.set_cons_zero, List.set_cons_succ]
            refine wpAnyH_take (i := 8) (v := ?vQ8) rfl (by kernel_rfl) (by kernel_rfl) (by kernel_rfl) (fun _ _ _ h => h) (Or.inl ⟨by rfl, ?yQ8⟩) hHeld ?rQ8
            case yQ8 => (intro W hSw; simp only [List.getElem_toArray, List.getElem_cons_succ, List.getElem_cons_zero]; go_simp; try (with_reducible rfl))
            simp only [List.getElem_toArray, List.getElem_cons_succ, List.getElem_cons_zero, Act.put, List.setIfInBounds_toArray, List.set_cons_zero, List.set_cons_succ]
            refine wpAnyH_take (i := 9) (v := ?vQ9) rfl (by kernel_rfl) (by kernel_rfl) (by kernel_rfl) (fun _ _ _ h => h) (Or.inl ⟨by rfl, ?yQ9⟩) hHeld ?rQ9
            case yQ9 => (intro W hSw; simp only [List.getElem_toArray, List.getElem_cons_succ, List.getElem_cons_zero]; go_simp; try (with_reducible rfl))
            simp only [List.getElem_toArray, List.getElem_cons_succ, List.getElem_cons_zero, Act.put, List.setIfInBounds_toArray, List.set_cons_zero, List.set_cons_succ]
            refine wpAnyH_take (i := 10) (v := ?vQ10) rfl (by kernel_rfl) (by kernel_rfl) (by kernel_rfl) (fun _ _ _ h => h) (Or.inl ⟨by rfl, ?yQ10⟩) hHeld ?rQ10
            case yQ10 => (intro W hSw; simp only [List.getElem_toArray, List.getElem_cons_succ, List.getElem_cons_zero]; go_simp; try (with_reducible rfl))
            simp only [List.getElem_toArray, List.getElem_cons_succ, List.getElem_cons_zero, Act.put, List.setIfInBounds_toArray, List.set_cons_zero, List.set_cons_succ]
            refine wpAnyH_take (i := 11) (v := ?vQ11) rfl (by kernel_rfl) (by kernel_rfl) (by kernel_rfl) (fun _ _ _ h => h) (Or.inl ⟨by rfl, ?yQ11⟩) hHeld ?rQ11
            case yQ11 => (intro W hSw; simp only [List.getElem_toArray, List.getElem_cons_succ, List.getElem_cons_zero]; go_simp; try (with_reducible rfl))
            simp only [List.getElem_toArray, List.getElem_cons_succ, List.getElem_cons_zero, Act.put, List.setIfInBounds_toArray, List.set_cons_zero, List.set_cons_succ]
            refine wpAnyH_take (i := 12) (v := ?vQ12) rfl (by kernel_rfl) (by kernel_rfl) (by kernel_rfl) (fun _ _ _ h => h) (Or.inl ⟨by rfl, ?yQ12⟩) hHeld ?rQ12
            case yQ12 => (intro W hSw; simp only [List.getElem_toArray, List.getElem_cons_succ, List.getElem_cons_zero]; go_simp; try (with_reducible rfl))
            simp only [List.getElem_toArray, List.getElem_cons_succ, List.getElem_cons_zero, Act.put, List.setIfInBounds_toArray, List.set_cons_zero, List.set_cons_succ]
            refine wpAnyH_take (i := 13) (v := ?vQ13) rfl (by kernel_rfl) (by kernel_rfl) (by kernel_rfl) (fun _ _ _ h => h) (Or.inl ⟨by rfl, ?yQ13⟩) hHeld ?rQ13
            case yQ13 => (intro W hSw; simp only [List.getElem_toArray, List.getElem_cons_succ, List.getElem_cons_zero]; go_simp; try (with_reducible rfl))
            simp only [List.getElem_toArray, List.getElem_cons_succ, List.getElem_cons_zero, Act.put, List.setIfInBounds_toArray, List.set_cons_zero, List.set_cons_succ]
            refine wpAnyH_take (i := 14) (v := ?vQ14) rfl (by kernel_rfl) (by kernel_rfl) (by kernel_rfl) (fun _ _ _ h => h) (Or.inl ⟨by rfl, ?yQ14⟩) hHeld ?rQ14
            case yQ14 => (intro W hSw; simp only [List.getElem_toArray, List.getElem_cons_succ, List.getElem_cons_zero]; go_simp; try (with_reducible rfl))
            simp only [List.getElem_toArray, List.getElem_cons_succ, List.getElem_cons_zero, Act.put, List.setIfInBounds_toArray, List.set_cons_zero, List.set_cons_succ]
            refine wpAnyH_take (i := 15) (v := ?vQ15) rfl (by kernel_rfl) (by kernel_rfl) (by kernel_rfl) (fun _ _ _ h => h) (Or.inl ⟨by rfl, ?yQ15⟩) hHeld ?rQ15
            case yQ15 => (intro W hSw; simp only [List.getElem_toArray, List.getElem_cons_succ, List.getElem_cons_zero]; go_simp; try (with_reducible rfl))
            simp only [List.getElem_toArray, List.getElem_cons_succ, List.getElem_cons_zero, Act.put, List.setIfInBounds_toArray, List.set_cons_zero, List.set_cons_succ]
            refine wpAnyH_take (i := 16) (v := ?vQ16) rfl (by kernel_rfl) (by kernel_rfl) (by kernel_rfl) (fun _ _ _ h => h) (Or.inl ⟨by rfl, ?yQ16⟩) hHeld ?rQ16
            case yQ16 => (intro W hSw; simp only [List.getElem_toArray, List.getElem_cons_succ, List.getElem_cons_zero]; go_simp; try (with_reducible rfl))
            simp only [List.getElem_toArray, List.getElem_cons_succ, List.getElem_cons_zero, Act.put, List.setIfInBounds_toArray, List.set_cons_zero, List.set_cons_succ]
            refine wpAnyH_take (i := 17) (v := ?vQ17) rfl (by kernel_rfl) (by kernel_rfl) (by kernel_rfl) (fun _ _ _ h => h) (Or.inl ⟨by rfl, ?yQ17⟩) hHeld ?rQ17
            case yQ17 => (intro W hSw; simp only [List.getElem_toArray, List.getElem_cons_succ, List.getElem_cons_zero]; go_simp; try (with_reducible rfl))
            simp only [List.getElem_toArray, List.getElem_cons_succ, List.getElem_cons_zero, Act.put, List.setIfInBounds_toArray, List.set_cons_zero, List.set_cons_succ]
            refine wpAnyH_take (i := 18) (v := ?vQ18) rfl (by kernel_rfl) (by kernel_rfl) (by kernel_rfl) (fun _ _ _ h => h) (Or.inl ⟨by rfl, ?yQ18⟩) hHeld ?rQ18
            case yQ18 => (intro W hSw; simp only [List.getElem_toArray, List.getElem_cons_succ, List.getElem_cons_zero]; go_simp; try (with_reducible rfl))
            simp only [List.getElem_toArray, List.getElem_cons_succ, List.getElem_cons_zero, Act.put, List.setIfInBounds_toArray, List.set_cons_zero, List.set_cons_succ]
            refine wpAnyH_take (i := 19) (v := ?vQ19) rfl (by kernel_rfl) (by kernel_rfl) (by kernel_rfl) (fun _ _ _ h => h) (Or.inl ⟨by rfl, ?yQ19⟩) hHeld ?rQ19
            case yQ19 => (intro W hSw; simp only [List.getElem_toArray, List.getElem_cons_succ, List.getElem_cons_zero]; go_simp; try (with_reducible rfl))
            simp only [List.getElem_toArray, List.getElem_cons_succ, List.getElem_cons_zero, Act.put, List.setIfInBounds_toArray, List.set_cons_zero, List.set_cons_succ]
            refine wpAnyH_take (i := 20) (v := ?vQ20) rfl (by kernel_rfl) (by kernel_rfl) (by kernel_rfl) (fun _ _ _ h => h) (Or.inl ⟨by rfl, ?yQ20⟩) hHeld ?rQ20
            case yQ20 => (intro W hSw; simp only [List.getElem_toArray, List.getElem_cons_succ, List.getElem_cons_zero]; go_simp; try (with_reducible rfl))
            simp only [List.getElem_toArray, List.getElem_cons_succ, List.getElem_cons_zero, Act.put, List.setIfInBounds_toArray, List.set_cons_zero, List.set_cons_succ]
            refine wpAnyH_take (i := 21) (v := ?vQ21) rfl (by kernel_rfl) (by kernel_rfl) (by kernel_rfl) (fun _ _ _ h => h) (Or.inl ⟨by rfl, ?yQ21⟩) hHeld ?rQ21
            case yQ21 => (intro W hSw; simp only [List.getElem_toArray, List.getElem_cons_succ, List.getElem_cons_zero]; go_simp; try (with_reducible rfl))
            simp only [List.getElem_toArray, List.getElem_cons_succ, List.getElem_cons_zero, Act.put, List.setIfInBounds_toArray, List.set_cons_zero, List.set_cons_succ]
            refine wpAnyH_take (i := 22) (v := ?vQ22) rfl (by kernel_rfl) (by kernel_rfl) (by kernel_rfl) (fun _ _ _ h => h) (Or.inl ⟨by rfl, ?yQ22⟩) hHeld ?rQ22
            case yQ22 => (intro W hSw; simp only [List.getElem_toArray, List.getElem_cons_succ, List.getElem_cons_zero]; go_simp; try (with_reducible rfl))
            simp only [List.getElem_toArray, List.getElem_cons_succ, List.getElem_cons_zero, Act.put, List.setIfInBounds_toArray, List.set_cons_zero, List.set_cons_succ]
            refine wpAnyH_take (i := 23) (v := ?vQ23) rfl (by kernel_rfl) (by kernel_rfl) (by kernel_rfl) (fun _ _ _ h => h) (Or.inl ⟨by rfl, ?yQ23⟩) hHeld ?rQ23
            case yQ23 => (intro W hSw; simp only [List.getElem_toArray, List.getElem_cons_succ, List.getElem_cons_zero]; go_simp; try (with_reducible rfl))
            simp only [List.getElem_toArray, List.getElem_cons_succ, List.getElem_cons_zero, Act.put, List.setIfInBounds_toArray, List.set_cons_zero, List.set_cons_succ]
            refine wpAnyH_take (i := 24) (v := ?vQ24) rfl (by kernel_rfl) (by kernel_rfl) (by kernel_rfl) (fun _ _ _ h => h) (Or.inl ⟨by rfl, ?yQ24⟩) hHeld ?rQ24
            case yQ24 => (intro W hSw; simp only [List.getElem_toArray, List.getElem_cons_succ, List.getElem_cons_zero]; go_simp; try (with_reducible rfl))
            simp only [List.getElem_toArray, List.getElem_cons_succ, List.getElem_cons_zero, Act.put, List.setIfInBounds_toArray, List.set_cons_zero, List.set_cons_succ]
            refine wpAnyH_take (i := 25) (v := ?vQ25) rfl (by kernel_rfl) (by kernel_rfl) (by kernel_rfl) (fun _ _ _ h => h) (Or.inl ⟨by rfl, ?yQ25⟩) hHeld ?rQ25
            case yQ25 => (intro W hSw; simp only [List.getElem_toArray, List.getElem_cons_succ, List.getElem_cons_zero]; go_simp; try (with_reducible rfl))
            simp only [List.getElem_toArray, List.getElem_cons_succ, List.getElem_cons_zero, Act.put, List.setIfInBounds_toArray, List.set_cons_zero, List.set_cons_succ]
            refine wpAnyH_take (i := 26) (v := ?vQ26) rfl (by kernel_rfl) (by kernel_rfl) (by kernel_rfl) (fun _ _ _ h => h) (Or.inl ⟨by rfl, ?yQ26⟩) hHeld ?rQ26
            case yQ26 => (intro W hSw; simp only [List.getElem_toArray, List.getElem_cons_succ, List.getElem_cons_zero]; go_simp; try (with_reducible rfl))
            simp only [List.getElem_toArray, List.getElem_cons_succ, List.getElem_cons_zero, Act.put, List.setIfInBounds_toArray, List.set_cons_zero, List.set_cons_succ]
            refine wpAnyH_take (i := 27) (v := ?vQ27) rfl (by kernel_rfl) (by kernel_rfl) (by kernel_rfl) (fun _ _ _ h => h) (Or.inl ⟨by rfl, ?yQ27⟩) hHeld ?rQ27
            case yQ27 => (intro W hSw; simp only [List.getElem_toArray, List.getElem_cons_succ, List.getElem_cons_zero]; go_simp; try (with_reducible rfl))
            simp only [List.getElem_toArray, List.getElem_cons_succ, List.getElem_cons_zero, Act.put, List.setIfInBounds_toArray, List.set_cons_zero, List.set_cons_succ]
            refine wpAnyH_take (i := 28) (v := ?vQ28) rfl (by kernel_rfl) (by kernel_rfl) (by kernel_rfl) (fun _ _ _ h => h) (Or.inl ⟨by rfl, ?yQ28⟩) hHeld ?rQ28
            case yQ28 => (intro W hSw; simp only [List.getElem_toArray, List.getElem_cons_succ, List.getElem_cons_zero]; go_simp; try (with_reducible rfl))
            simp only [List.getElem_toArray, List.getElem_cons_succ, List.getElem_cons_zero, Act.put, List.setIfInBounds_toArray, List.set_cons_zero, List.set_cons_succ]
            refine wpAnyH_take (i := 29) (v := ?vQ29) rfl (by kernel_rfl) (by kernel_rfl) (by kernel_rfl) (fun _ _ _ h => h) (Or.inl ⟨by rfl, ?yQ29⟩) hHeld ?rQ29
            case yQ29 => (intro W hSw; simp only [List.getElem_toArray, List.getElem_cons_succ, List.getElem_cons_zero]; go_simp; try (with_reducible rfl))
            simp only [List.getElem_toArray, List.getElem_cons_succ, List.getElem_cons_zero, Act.put, List.setIfInBounds_toArray, List.set_cons_zero, List.set_cons_succ]
            refine wpAnyH_done (by kernel_rfl) ?_ _
            have B1 := Kp.end6 hHeld
            clear hHeld HK0
            go_wp2_with fail
            go_roundw
            case rel => exact ⟨k + 1, by omega, by go_num, B1⟩
            case measure => simp [intOf]; omega
          · go_wp2_with fail
            go_ret
            exact ⟨rfl, BV.out.trans (hB.mono BV.out.size)⟩
  · have FB := Lib.hid hfine
    clear hfine
    go_wp2_with fail
    refine (C2.out _ (Kp.end2 K2)).mono ?_
    rintro e w3 ⟨rfl, hb3⟩
    have K3 := Kp.keep2 hb3 K2
    go_wp2_with fail
    refine (refMay_any _ _ _).mono ?_
    rintro e v ⟨rfl, hb4⟩
    have K4 := Kp.keep2 hb4 K3
    have BV := Lib.hid (Kp.end2 K4)
    have Z := Lib.hid (show v.cell? ⟨w.heap.size, 0, none⟩ = some (.int .i64 d.1) ∧ v.cell? ⟨w.heap.size, 1, none⟩ = some (.int .i64 d.2) from ⟨K4.1, K4.2.1⟩)
    have HC := Lib.hid (show ∀ (k : Nat) (h : k < l.length), v.cell? ⟨b, off + k * 2, none⟩ = some (.int .i64 l[k].1) ∧ v.cell? ⟨b, off + k * 2 + 1, none⟩ = some (.int .i64 l[k].2) from fun k hk => ⟨((Kp.end2 K4).cell (p := ⟨b, off + k * 2, none⟩) hbw).trans (HC0.out k hk).1, ((Kp.end2 K4).cell (p := ⟨b, off + k * 2 + 1, none⟩) hbw).trans (HC0.out k hk).2⟩)
    have hb : b < v.heap.size := Nat.lt_of_lt_of_le hbw BV.out.size
    clear hb3 hb4 K2 K3 K4 HC0
    go_wp2_with fail
    go_loopw [9, 10] (fun f i wr => FineRel v l d f i wr) (fun _ i _ => n - (intOf i).toNat)
    case atStart => exact ⟨0, Nat.zero_le _, by rw [fineTo_zero], rfl, Below.refl _ _⟩
    case round =>
      obtain ⟨k, hk, rfl, rfl, hB⟩ := hrel
      by_cases hlt : k < n
      · have hkl : k < l.length := by rw [← E.out]; exact hlt
        obtain ⟨a, ha⟩ : ∃ a, a = l[k] := ⟨_, rfl⟩
        have K0 : wr.cell? ⟨w.heap.size, 0, none⟩ = some (.int .i64 d.1) ∧ wr.cell? ⟨w.heap.size, 1, none⟩ = some (.int .i64 d.2) ∧ wr.cell? ⟨b, off + k * 2, none⟩ = some (.int .i64 a.1) ∧ wr.cell? ⟨b, off + k * 2 + 1, none⟩ = some (.int .i64 a.2) ∧ v.heap.size ≤ wr.heap.size ∧ Below v.heap.size v wr := by
          rw [ha]
          exact ⟨cell_later hB Z.out.1, cell_later hB Z.out.2, (hB.cell (p := ⟨b, off + k * 2, none⟩) hb).trans (HC.out k hkl).1, (hB.cell (p := ⟨b, off + k * 2 + 1, none⟩) hb).trans (HC.out k hkl).2, hB.size, hB⟩
        obtain ⟨sx, hsx⟩ : ∃ s, s = IntKind.i64.wrap (a.1 + d.1) := ⟨_, rfl⟩
        obtain ⟨sy, hsy⟩ : ∃ s, s = IntKind.i64.wrap (a.2 + d.2) := ⟨_, rfl⟩
        have STEP := Lib.hid (fine_step (l := l) (d := d) (k := k) hkl HM.out sx sy (by rw [hsx, ha]) (by rw [hsy, ha]))
        have x1 := hsx.symm
        have x2 := hsy.symm
        have HK0 := Lib.hid K0
        clear ha hsx hsy K0
        have hk0 : (0 : Int) ≤ (k : Int) := by omega
        have hk1 : (k : Int) < (n : Int) := by omega
        go_wp2_with fail
        refine wp_region_held_drew (S := (fun W => W.cell? ⟨w.heap.size, 0, none⟩ = some (.int .i64 d.1) ∧ W.cell? ⟨w.heap.size, 1, none⟩ = some (.int .i64 d.2) ∧ W.cell? ⟨b, off + k * 2, none⟩ = some (.int .i64 a.1) ∧ W.cell? ⟨b, off + k * 2 + 1, none⟩ = some (.int .i64 a.2) ∧ v.heap.size ≤ W.heap.size ∧ Below v.heap.size v W)) (by kernel_rfl) (Kp.drew4 HK0.out) (fun hHeld => ?_)
        refine wpAnyH_take (i := 0) (v := ?vB0) rfl (by kernel_rfl) (by kernel_rfl) (by kernel_rfl) (fun _ _ _ h => h) (Or.inl ⟨by rfl, ?yB0⟩) hHeld ?rB0
        case yB0 => (intro W hSw; simp only [List.getElem_toArray, List.getElem_cons_zero]; go_simp; try (with_reducible rfl))
        simp only [List.getElem_toArray, List.getElem_cons_zero, Act.put, List.setIfInBounds_toArray, List.set_cons_zero, List.set_cons_succ]
        refine wpAnyH_take (i := 1) (v := ?vB1) rfl (by kernel_rfl) (by kernel_rfl) (by kernel_rfl) (fun _ _ _ h => h) (Or.inl ⟨by rfl, ?yB1⟩) hHeld ?rB1
        case yB1 => (intro W hSw; simp only [List.getElem_toArray, List.getElem_cons_succ, List.getElem_cons_zero]; go_simp; try (with_reducible rfl))
        simp only [List.getElem_toArray, List.getElem_cons_succ, List.getElem_cons_zero, Act.put, List.setIfInBounds_toArray, List.set_cons_zero, List.set_cons_succ]
        refine wpAnyH_take (i := 2) (v := ?vB2) rfl (by kernel_rfl) (by kernel_rfl) (by kernel_rfl) (fun _ _ _ h => h) (Or.inl ⟨by rfl, ?yB2⟩) hHeld ?rB2
        case yB2 => (intro W hSw; simp only [List.getElem_toArray, List.getElem_cons_succ, List.getElem_cons_zero]; go_simp; try (with_reducible rfl))
        simp only [List.getElem_toArray, List.getElem_cons_succ, List.getElem_cons_zero, Act.put, List.setIfInBounds_toArray, List.set_cons_zero, List.set_cons_succ]
        refine wpAnyH_take (i := 3) (v := ?vB3) rfl (by kernel_rfl) (by kernel_rfl) (by kernel_rfl) (fun _ _ _ h => h) (Or.inl ⟨by rfl, ?yB3⟩) hHeld ?rB3
        case yB3 => (intro W hSw; simp only [List.getElem_toArray, List.getElem_cons_succ, List.getElem_cons_zero]; go_simp; try (with_reducible rfl))
        simp only [List.getElem_toArray, List.getElem_cons_succ, List.getElem_cons_zero, Act.put, List.setIfInBounds_toArray, List.set_cons_zero, List.set_cons_succ]
        refine wpAnyH_take (i := 4) (v := ?vB4) rfl (by kernel_rfl) (by kernel_rfl) (by kernel_rfl) (fun _ _ _ h => h) (Or.inl ⟨by rfl, ?yB4⟩) hHeld ?rB4
        case yB4 => (intro W hSw; simp only [List.getElem_toArray, List.getElem_cons_succ, List.getElem_cons_zero]; go_simp; try (with_reducible rfl))
        simp only [List.getElem_toArray, List.getElem_cons_succ, List.getElem_cons_zero, Act.put, List.setIfInBounds_toArray, List.set_cons_zero, List.set_cons_succ]
        refine wpAnyH_take (i := 5) (v := ?vB5) rfl (by kernel_rfl) (by kernel_rfl) (by kernel_rfl) (fun _ _ _ h => h) (Or.inl ⟨by rfl, ?yB5⟩) hHeld ?rB5
        case yB5 => (intro W hSw; simp only [List.getElem_toArray, List.getElem_cons_succ, List.getElem_cons_zero]; go_simp; try (with_reducible rfl))
        simp only [List.getElem_toArray, List.getElem_cons_succ, List.getElem_cons_zero, Act.put, List.setIfInBounds_toArray, List.set_cons_zero, List.set_cons_succ]
        refine wpAnyH_take (i := 6) (v := ?vB6) rfl (by kernel_rfl) (by kernel_rfl) (by kernel_rfl) (fun _ _ _ h => h) (Or.inl ⟨by rfl, ?yB6⟩) hHeld ?rB6
        case yB6 => (intro W hSw; simp only [List.getElem_toArray, List.getElem_cons_succ, List.getElem_cons_zero]; go_simp; try (with_reducible rfl))
        simp only [List.getElem_toArray, List.getElem_cons_succ, List.getElem_cons_zero, Act.put, List.setIfInBounds_toArray, List.set_cons_zero, List.set_cons_succ]
        refine wpAnyH_take (i := 7) (v := ?vB7) rfl (by kernel_rfl) (by kernel_rfl) (by kernel_rfl) (fun _ _ _ h => h) (Or.inl ⟨by rfl, ?yB7⟩) hHeld ?rB7
        case yB7 => (intro W hSw; simp only [List.getElem_toArray, List.getElem_cons_succ, List.getElem_cons_zero]; go_simp; try (with_reducible rfl))
        simp only [List.getElem_toArray, List.getElem_cons_succ, List.getElem_cons_zero, Act.put, List.setIfInBounds_toArray, List.set_cons_zero, List.set_cons_succ]
        refine wpAnyH_take (i := 8) (v := ?vB8) rfl (by kernel_rfl) (by kernel_rfl) (by kernel_rfl) (fun _ _ _ h => h) (Or.inl ⟨by rfl, ?yB8⟩) hHeld ?rB8
        case yB8 => (intro W hSw; simp only [List.getElem_toArray, List.getElem_cons_succ, List.getElem_cons_zero]; go_simp; try (with_reducible rfl))
        simp only [List.getElem_toArray, List.getElem_cons_succ, List.getElem_cons_zero, Act.put, List.setIfInBounds_toArray, List.set_cons_zero, List.set_cons_succ]
        refine wpAnyH_take (i := 9) (v := ?vB9) rfl (by kernel_rfl) (by kernel_rfl) (by kernel_rfl) (fun _ _ _ h => h) (Or.inl ⟨by rfl, ?yB9⟩) hHeld ?rB9
        case yB9 => (intro W hSw; simp only [List.getElem_toArray, List.getElem_cons_succ, List.getElem_cons_zero]; go_simp; try (with_reducible rfl))
        simp only [List.getElem_toArray, List.getElem_cons_succ, List.getElem_cons_zero, Act.put, List.setIfInBounds_toArray, List.set_cons_zero, List.set_cons_succ]
        refine wpAnyH_take (i := 10) (v := ?vB10) rfl (by kernel_rfl) (by kernel_rfl) (by kernel_rfl) (fun _ _ _ h => h) (Or.inl ⟨by rfl, ?yB10⟩) hHeld ?rB10
        case yB10 => (intro W hSw; simp only [List.getElem_toArray, List.getElem_cons_succ, List.getElem_cons_zero]; go_simp; try (with_reducible rfl))
        simp only [List.getElem_toArray, List.getElem_cons_succ, List.getElem_cons_zero, Act.put, List.setIfInBounds_toArray, List.set_cons_zero, List.set_cons_succ]
        refine wpAnyH_take (i := 11) (v := ?vB11) rfl (by kernel_rfl) (by kernel_rfl) (by kernel_rfl) (fun _ _ _ h => h) (Or.inl ⟨by rfl, ?yB11⟩) hHeld ?rB11
        case yB11 => (intro W hSw; simp only [List.getElem_toArray, List.getElem_cons_succ, List.getElem_cons_zero]; go_simp; try (with_reducible rfl))
        simp only [List.getElem_toArray, List.getElem_cons_succ, List.getElem_cons_zero, Act.put, List.setIfInBounds_toArray, List.set_cons_zero, List.set_cons_succ]
        refine wpAnyH_take (i := 12) (v := ?vB12) rfl (by kernel_rfl) (by kernel_rfl) (by kernel_rfl) (fun _ _ _ h => h) (Or.inl ⟨by rfl, ?yB12⟩) hHeld ?rB12
        case yB12 => (intro W hSw; simp only [List.getElem_toArray, List.getElem_cons_succ, List.getElem_cons_zero]; go_simp; try (with_reducible rfl))
        simp only [List.getElem_toArray, List.getElem_cons_succ, List.getElem_cons_zero, Act.put, List.setIfInBounds_toArray, List.set_cons_zero, List.set_cons_succ]
        refine wpAnyH_take (i := 13) (v := ?vB13) rfl (by kernel_rfl) (by kernel_rfl) (by kernel_rfl) (fun _ _ _ h => h) (Or.inl ⟨by rfl, ?yB13⟩) hHeld ?rB13
        case yB13 => (intro W hSw; simp only [List.getElem_toArray, List.getElem_cons_succ, List.getElem_cons_zero]; go_simp; try (with_reducible rfl))
        simp only [List.getElem_toArray, List.getElem_cons_succ, List.getElem_cons_zero, Act.put, List.setIfInBounds_toArray, List.set_cons_zero, List.set_cons_succ]
        refine wpAnyH_take (i := 14) (v := ?vB14) rfl (by kernel_rfl) (by kernel_rfl) (by kernel_rfl) (fun _ _ _ h => h) (Or.inl ⟨by rfl, ?yB14⟩) hHeld ?rB14
        case yB14 => (intro W hSw; simp only [List.getElem_toArray, List.getElem_cons_succ, List.getElem_cons_zero]; go_simp; try (with_reducible rfl))
        simp only [List.getElem_toArray, List.getElem_cons_succ, List.getElem_cons_zero, Act.put, List.setIfInBounds_toArray, List.set_cons_zero, List.set_cons_succ]
        refine wpAnyH_take (i := 15) (v := ?vB15) rfl (by kernel_rfl) (by kernel_rfl) (by kernel_rfl) (fun _ _ _ h => h) (Or.inl ⟨by rfl, ?yB15⟩) hHeld ?rB15
        case yB15 => (intro W hSw; simp only [List.getElem_toArray, List.getElem_cons_succ, List.getElem_cons_zero]; go_simp; try (with_reducible rfl))
        simp only [List.getElem_toArray, List.getElem_cons_succ, List.getElem_cons_zero, Act.put, List.setIfInBounds_toArray, List.set_cons_zero, List.set_cons_succ]
        refine wpAnyH_take (i := 16) (v := ?vB16) rfl (by kernel_rfl) (by kernel_rfl) (by kernel_rfl) (fun _ _ _ h => h) (Or.inl ⟨by rfl, ?yB16⟩) hHeld ?rB16
        case yB16 => (intro W hSw; simp only [List.getElem_toArray, List.getElem_cons_succ, List.getElem_cons_zero]; go_simp; try (with_reducible rfl))
        simp only [List.getElem_toArray, List.getElem_cons_succ, List.getElem_cons_zero, Act.put, List.setIfInBounds_toArray, List.set_cons_zero, List.set_cons_succ]
        refine wpAnyH_ready (rs := [17]) (by kernel_rfl) (by simp) (AllReadyH.cons rfl (fun K hK => ?_) AllReadyH.nil)
        simp only [List.getElem_toArray, List.getElem_cons_succ, List.getElem_cons_zero]
        go_simp
        (go_at_call 9; refine (refMay_any _ _ _).mono ?_; rintro e w9 ⟨rfl, hb1⟩)
        try go_wp2_with fail
        refine hK.out _ _ (Kp.keep4 hb1 hHeld) (fun hHeld1 => ?_)
        clear hK K hHeld
        have hHeld := hHeld1; clear hHeld1
        try simp only [List.getElem_toArray, List.getElem_cons_succ, List.getElem_cons_zero, Act.put, List.setIfInBounds_toArray, List.set_cons_zero, List.set_cons_succ]
        refine wpAnyH_take (i := 18) (v := ?vB18) rfl (by kernel_rfl) (by kernel_rfl) (by kernel_rfl) (fun _ _ _ h => h) (Or.inl ⟨by rfl, ?yB18⟩) hHeld ?rB18
        case yB18 => (intro W hSw; simp only [List.getElem_toArray, List.getElem_cons_succ, List.getElem_cons_zero]; go_simp; try (with_reducible rfl))
        simp only [List.getElem_toArray, List.getElem_cons_succ, List.getElem_cons_zero, Act.put, List.setIfInBounds_toArray, List.set_cons_zero, List.set_cons_succ]
        refine wpAnyH_done (by kernel_rfl) ?_ _
        have B1 := Kp.end4 hHeld
        clear hHeld HK0
        cases hF : fineTo l d k
        · go_wp2_with fail
          go_roundw
          case rel => exact ⟨k + 1, by omega, by rw [STEP.out, hF]; rfl, by go_num, B1⟩
          case measure => simp [intOf]; omega
        · go_wp2_with fail
          go_roundw
          case rel => exact ⟨k + 1, by omega, by rw [STEP.out, hF]; simp, by go_num, B1⟩
          case measure => simp [intOf]; omega
      · have hkn : k = n := by have := E.out; omega
        have HF := Lib.hid (show fineTo l d k = fineB l d by rw [hkn, E.out, fineTo_all])
        clear hkn
        rw [HF.out, FB.out]
        go_wp2_with fail
        refine (Cd.code_range _).mono ?_
        rintro e w9 ⟨rfl, rfl⟩
        go_wp2_with fail
        go_ret
        exact ⟨rfl, BV.out.trans (hB.mono BV.out.size)⟩

theorem moves_all (l : List Pnt) (A : Option Addr) (c : Nat) (dx dy : Int) (w : World) (hA : PtsAt w w.heap.size A l) (hm : l.length ≤ maxLen) :
    Calls Try.prog 4 #[.slice A l.length c, .agg #[.int .i64 dx, .int .i64 dy]] w fun e w' => e = .returned (.bool true) ∧ Below w.heap.size w w' := by
  by_cases h : l.length ≤ 70
  · cases hs : simpleB l
    · exact moves_arg l A c (dx, dy) w hA h hs
    · exact moves_some l A c (dx, dy) w hA hs
  · exact moves_far A l.length c (dx, dy) w (by omega) hm
end Go.Proofs.Ytoijgppkpagelaa.Pl
