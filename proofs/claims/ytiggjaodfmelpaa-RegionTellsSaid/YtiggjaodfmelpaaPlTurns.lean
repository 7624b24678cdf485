/-
  The contract of turnsBack of layer 3 (poly), for a list of 1 to 70 points that may be. Memory that was there is left as it was.
-/
import Derived.Test.YtiggjaodfmelpaaPlAt
import Derived.Test.YtiggjaodfmelpaaPtCross
import Derived.Test.YtiggjaodfmelpaaBatch
import Derived.IntWalk
namespace Go.Proofs.Ytiggjaodfmelpaa.Pl
open Go.RowKit Go.Proofs.Ytiggjaodfmelpaa.Pt Go.Proofs.Ytiggjaodfmelpaa.Rc Go.Proofs.Ytiggjaodfmelpaa.Pts
set_option linter.unusedVariables false

/-- A point in a block of the call's own, that may be written. -/
def Pt2 (W : World) (g : Nat) (x y : Int) : Prop := W.cell? ⟨g, 0, none⟩ = some (.int .i64 x) ∧ W.cell? ⟨g, 1, none⟩ = some (.int .i64 y) ∧ W.frozen? ⟨g, 0, none⟩ = false ∧ W.frozen? ⟨g, 1, none⟩ = false
section
variable {W w1 : World} {g : Nat} {x y : Int}
theorem Pt2.lt (h : Pt2 W g x y) : g < W.heap.size := World.block_lt_of_cell? _ ⟨g, 0, none⟩ h.1
theorem Pt2.later (h : Pt2 W g x y) (hb : Below W.heap.size W w1) : Pt2 w1 g x y := by
  have hl := h.lt
  obtain ⟨a, b, c, d⟩ := h
  exact ⟨(hb.cell (p := ⟨g, 0, none⟩) hl).trans a, (hb.cell (p := ⟨g, 1, none⟩) hl).trans b, (hb.frozen (p := ⟨g, 0, none⟩) hl).trans c, (hb.frozen (p := ⟨g, 1, none⟩) hl).trans d⟩
theorem Pt2.of (x y : Int) (t : TypeId) (h : W.heap[g]? = some (.cells #[.int .i64 x, .int .i64 y] t)) : Pt2 W g x y := by
  refine ⟨?_, ?_, ?_, ?_⟩ <;> simp [go_sem, World.cell?, World.frozen?, h]
theorem Pt2.far (h : Pt2 W g x y) {p : Addr} (v : Value) (hp : p.block ≠ g) : Pt2 (W.setCell p v) g x y := by
  obtain ⟨a, b, e, f⟩ := h
  exact ⟨(cell_far W v hp).trans a, (cell_far W v hp).trans b, (frozen_set ..).trans e, (frozen_set ..).trans f⟩
theorem Pt2.set (h : Pt2 W g x y) (a b : Int) : Pt2 ((W.setCell ⟨g, 0, none⟩ (.int .i64 a)).setCell ⟨g, 1, none⟩ (.int .i64 b)) g a b := by
  obtain ⟨h0, h1, f0, f1⟩ := h
  refine ⟨?_, ?_, ?_, ?_⟩ <;> simp [go_sem, *]
end

def TurnsRel (w : World) (l : List Pnt) (i : Value) (wr : World) : Prop := ∃ k : Nat, k ≤ l.length ∧ i = .int .i64 k ∧ anyTo (turnF l) k = false ∧ Below w.heap.size w wr

set_option maxHeartbeats 4000000 in
theorem turnsBack_any (l : List Pnt) (A : Option Addr) (c : Nat) (w : World) (hA : PtsAt w w.heap.size A l) (h0 : 0 < l.length) (hn : l.length ≤ 70) (hm : l.all pmay = true) :
    Calls Try.prog 42 #[.slice A l.length c] w fun e w' => e = .returned (.bool (turnsB l)) ∧ Below w.heap.size w w' := by
  have M := Lib.hid (fun i => all_any hm h0 i)
  have C := Lib.hid (fun j W (h : Below w.heap.size w W) (hj : 0 ≤ j) => at_any l A c j W ((hA.later h).wide h.size) h0 hn hj)
  obtain ⟨b, off, rfl, hb, hc⟩ := hA (by intro h; subst h; simp at h0)
  have HC := Lib.hid hc
  obtain ⟨n, e⟩ : ∃ n, n = l.length := ⟨_, rfl⟩
  rw [← e] at hn h0 C ⊢
  have E := Lib.hid e
  clear e hA hm hc
  go_enter Try.func42, Try.ntmps42
  go_wp2_with fail
  go_loopw [9] (fun i wr => TurnsRel w l i wr) (fun i _ => n - (intOf i).toNat)
  case atStart => exact ⟨0, Nat.zero_le _, rfl, rfl, Below.refl _ _⟩
  case round =>
    obtain ⟨k, hk, rfl, hno, hB⟩ := hrel
    have HN := Lib.hid hno
    clear hno
    by_cases hlt : k < n
    · have hkl : k < l.length := by rw [← E.out]; exact hlt
      obtain ⟨p, hp⟩ : ∃ p, p = at_ l (k : Int) := ⟨_, rfl⟩
      obtain ⟨q, hq⟩ : ∃ q, q = at_ l ((k : Int) + 1) := ⟨_, rfl⟩
      obtain ⟨r, hr⟩ : ∃ r, r = at_ l ((k : Int) + 2) := ⟨_, rfl⟩
      have HS : Hid (∀ W, Below w.heap.size w W → W.cell? ⟨b, off + k * 2, none⟩ = some (.int .i64 p.1) ∧ W.cell? ⟨b, off + k * 2 + 1, none⟩ = some (.int .i64 p.2) ∧ Below w.heap.size w W) := Lib.hid fun W h => by
        rw [hp, at_nat hkl]
        exact ⟨(h.cell (p := ⟨b, off + k * 2, none⟩) hb).trans (HC.out k hkl).1, (h.cell (p := ⟨b, off + k * 2 + 1, none⟩) hb).trans (HC.out k hkl).2, h⟩
      have m1 : mayB p.1 p.2 = true := by rw [hp]; exact M.out _
      have m2 : mayB q.1 q.2 = true := by rw [hq]; exact M.out _
      have m3 : mayB r.1 r.2 = true := by rw [hr]; exact M.out _
      have D1 := Lib.hid (fun W h => C.out ((k : Int) + 1) W h (by omega))
      have D2 := Lib.hid (fun W h => C.out ((k : Int) + 2) W h (by omega))
      rw [← hq] at D1
      rw [← hr] at D2
      have HP := Lib.hid hp
      have HQ := Lib.hid hq
      have HR := Lib.hid hr
      clear hp hq hr C
      have hk0 : (0 : Int) ≤ (k : Int) := by omega
      have hk1 : (k : Int) < (n : Int) := by omega
      have x1 := IntWalk.i64_in ((k : Int) + 1) (by omega)
      have x2 := IntWalk.i64_in ((k : Int) + 2) (by omega)
      go_wp2_with fail
      refine wp_region_held_drew (S := (fun W => W.cell? ⟨b, off + k * 2, none⟩ = some (.int .i64 p.1) ∧ W.cell? ⟨b, off + k * 2 + 1, none⟩ = some (.int .i64 p.2) ∧ Below w.heap.size w W)) (by kernel_rfl) (HS.out _ hB.drew) (fun hHeld => ?_)
      refine wpAnyH_take (i := 0) (v := ?v0) rfl (by kernel_rfl) (by kernel_rfl) (by kernel_rfl) (fun _ _ _ h => h) (Or.inl ⟨by rfl, ?y0⟩) hHeld ?r0
      case y0 => (intro W hSw; simp only [List.getElem_toArray, List.getElem_cons_zero]; go_simp; try (with_reducible rfl))
      simp only [List.getElem_toArray, List.getElem_cons_zero, Act.put, List.setIfInBounds_toArray, List.set_cons_zero, List.set_cons_succ]
      refine wpAnyH_take (i := 1) (v := ?v1) rfl (by kernel_rfl) (by kernel_rfl) (by kernel_rfl) (fun _ _ _ h => h) (Or.inl ⟨by rfl, ?y1⟩) hHeld ?r1
      case y1 => (intro W hSw; simp only [List.getElem_toArray, List.getElem_cons_succ, List.getElem_cons_zero]; go_simp; try (with_reducible rfl))
      simp only [List.getElem_toArray, List.getElem_cons_succ, List.getElem_cons_zero, Act.put, List.setIfInBounds_toArray, List.set_cons_zero, List.set_cons_succ]
      refine wpAnyH_take (i := 2) (v := ?v2) rfl (by kernel_rfl) (by kernel_rfl) (by kernel_rfl) (fun _ _ _ h => h) (Or.inl ⟨by rfl, ?y2⟩) hHeld ?r2
      case y2 => (intro W hSw; simp only [List.getElem_toArray, List.getElem_cons_succ, List.getElem_cons_zero]; go_simp; try (with_reducible rfl))
      simp only [List.getElem_toArray, List.getElem_cons_succ, List.getElem_cons_zero, Act.put, List.setIfInBounds_toArray, List.set_cons_zero, List.set_cons_succ]
      refine wpAnyH_take (i := 3) (v := ?v3) rfl (by kernel_rfl) (by kernel_rfl) (by kernel_rfl) (fun _ _ _ h => h) (Or.inl ⟨by rfl, ?y3⟩) hHeld ?r3
      case y3 => (intro W hSw; simp only [List.getElem_toArray, List.getElem_cons_succ, List.getElem_cons_zero]; go_simp; try (with_reducible rfl))
      simp only [List.getElem_toArray, List.getElem_cons_succ, List.getElem_cons_zero, Act.put, List.setIfInBounds_toArray, List.set_cons_zero, List.set_cons_succ]
      refine wpAnyH_take (i := 4) (v := ?v4) rfl (by kernel_rfl) (by kernel_rfl) (by kernel_rfl) (fun _ _ _ h => h) (Or.inl ⟨by rfl, ?y4⟩) hHeld ?r4
      case y4 => (intro W hSw; simp only [List.getElem_toArray, List.getElem_cons_succ, List.getElem_cons_zero]; go_simp; try (with_reducible rfl))
      simp only [List.getElem_toArray, List.getElem_cons_succ, List.getElem_cons_zero, Act.put, List.setIfInBounds_toArray, List.set_cons_zero, List.set_cons_succ]
      refine wpAnyH_take (i := 5) (v := ?v5) rfl (by kernel_rfl) (by kernel_rfl) (by kernel_rfl) (fun _ _ _ h => h) (Or.inl ⟨by rfl, ?y5⟩) hHeld ?r5
      case y5 => (intro W hSw; simp only [List.getElem_toArray, List.getElem_cons_succ, List.getElem_cons_zero]; go_simp; try (with_reducible rfl))
      simp only [List.getElem_toArray, List.getElem_cons_succ, List.getElem_cons_zero, Act.put, List.setIfInBounds_toArray, List.set_cons_zero, List.set_cons_succ]
      refine wpAnyH_take (i := 6) (v := ?v6) rfl (by kernel_rfl) (by kernel_rfl) (by kernel_rfl) (fun _ _ _ h => h) (Or.inl ⟨by rfl, ?y6⟩) hHeld ?r6
      case y6 => (intro W hSw; simp only [List.getElem_toArray, List.getElem_cons_succ, List.getElem_cons_zero]; go_simp; try (with_reducible rfl))
      simp only [List.getElem_toArray, List.getElem_cons_succ, List.getElem_cons_zero, Act.put, List.setIfInBounds_toArray, List.set_cons_zero, List.set_cons_succ]
      refine wpAnyH_take (i := 8) (v := ?v8) rfl (by kernel_rfl) (by kernel_rfl) (by kernel_rfl) (fun _ _ _ h => h) (Or.inl ⟨by rfl, ?y8⟩) hHeld ?r8
      case y8 => (intro W hSw; simp only [List.getElem_toArray, List.getElem_cons_succ, List.getElem_cons_zero]; go_simp; try (with_reducible rfl))
      simp only [List.getElem_toArray, List.getElem_cons_succ, List.getElem_cons_zero, Act.put, List.setIfInBounds_toArray, List.set_cons_zero, List.set_cons_succ]
      refine wpAnyH_take (i := 9) (v := ?v9) rfl (by kernel_rfl) (by kernel_rfl) (by kernel_rfl) (fun _ _ _ h => h) (Or.inl ⟨by rfl, ?y9⟩) hHeld ?r9
      case y9 => (intro W hSw; simp only [List.getElem_toArray, List.getElem_cons_succ, List.getElem_cons_zero]; go_simp; try (with_reducible rfl))
      simp only [List.getElem_toArray, List.getElem_cons_succ, List.getElem_cons_zero, Act.put, List.setIfInBounds_toArray, List.set_cons_zero, List.set_cons_succ]
      refine wpAnyH_take (i := 10) (v := ?v10) rfl (by kernel_rfl) (by kernel_rfl) (by kernel_rfl) (fun _ _ _ h => h) (Or.inl ⟨by rfl, ?y10⟩) hHeld ?r10
      case y10 => (intro W hSw; simp only [List.getElem_toArray, List.getElem_cons_succ, List.getElem_cons_zero]; go_simp; try (with_reducible rfl))
      simp only [List.getElem_toArray, List.getElem_cons_succ, List.getElem_cons_zero, Act.put, List.setIfInBounds_toArray, List.set_cons_zero, List.set_cons_succ]
      refine Batch.batch (by kernel_rfl) (fun _ _ _ _ _ h => h) (fun i => if i = 7 then .gives (.agg #[.int .i64 q.1, .int .i64 q.2]) else if i = 11 then .gives (.agg #[.int .i64 r.1, .int .i64 r.2]) else .lays (.cells #[.int .i64 0, .int .i64 0] 28)) 5 [7, 11, 12, 13, 14] 3 _ _ _ (by kernel_rfl) (by kernel_rfl) (by decide) ?st hHeld ?fin
      case st =>
        intro i hi
        simp only [List.mem_cons, List.not_mem_nil, or_false] at hi
        rcases hi with rfl | rfl | rfl | rfl | rfl
        · intro W hW K hK
          replace hK := fun w' (h1 : _) (h2 : Below W.heap.size W w') => hK (.agg #[.int .i64 q.1, .int .i64 q.2]) w' h1 (show Batch.Kind.run (.gives _) W _ w' from ⟨rfl, h2⟩)
          simp only [Batch.dstOf, List.getElem?_toArray, List.getElem?_cons_succ, List.getElem?_cons_zero, Option.bind_some, Act.put, List.setIfInBounds_toArray, List.set_cons_zero, List.set_cons_succ] at hK
          refine wpOp_step rfl (fun K' hK' => ?_)
          have HK := Lib.hid hK
          have HK1 := Lib.hid hK'
          clear hK hK'
          simp only [List.getElem_toArray, List.getElem_cons_succ, List.getElem_cons_zero]
          go_simp
          go_at_call 55
          refine (D1.out _ hW.2.2).mono ?_
          rintro e w1 ⟨rfl, hb1⟩
          try go_wp2_with fail
          have hS1 := HS.out _ (hW.2.2.trans (hb1.mono hW.2.2.size))
          exact HK1.out _ _ ⟨hS1, HK.out _ hS1 hb1⟩
        · intro W hW K hK
          replace hK := fun w' (h1 : _) (h2 : Below W.heap.size W w') => hK (.agg #[.int .i64 r.1, .int .i64 r.2]) w' h1 (show Batch.Kind.run (.gives _) W _ w' from ⟨rfl, h2⟩)
          simp only [Batch.dstOf, List.getElem?_toArray, List.getElem?_cons_succ, List.getElem?_cons_zero, Option.bind_some, Act.put, List.setIfInBounds_toArray, List.set_cons_zero, List.set_cons_succ] at hK
          refine wpOp_step rfl (fun K' hK' => ?_)
          have HK := Lib.hid hK
          have HK1 := Lib.hid hK'
          clear hK hK'
          simp only [List.getElem_toArray, List.getElem_cons_succ, List.getElem_cons_zero]
          go_simp
          go_at_call 55
          refine (D2.out _ hW.2.2).mono ?_
          rintro e w1 ⟨rfl, hb1⟩
          try go_wp2_with fail
          have hS1 := HS.out _ (hW.2.2.trans (hb1.mono hW.2.2.size))
          exact HK1.out _ _ ⟨hS1, HK.out _ hS1 hb1⟩
        all_goals
          intro W hW K hK
          replace hK := fun (h1 : _) => hK (.pointer (some ⟨W.heap.size, 0, none⟩)) (W.alloc (.cells #[.int .i64 0, .int .i64 0] 28)) h1 (show Batch.Kind.run (.lays _) W _ _ from ⟨rfl, rfl⟩)
          simp only [Batch.dstOf, List.getElem?_toArray, List.getElem?_cons_succ, List.getElem?_cons_zero, Option.bind_some, Act.put, List.setIfInBounds_toArray, List.set_cons_zero, List.set_cons_succ] at hK
          refine wpOp_step rfl (fun K' hK' => ?_)
          have HK := Lib.hid hK
          have HK1 := Lib.hid hK'
          clear hK hK'
          simp only [List.getElem_toArray, List.getElem_cons_succ, List.getElem_cons_zero]
          go_simp
          have hS1 := HS.out _ (hW.2.2.alloc hW.2.2.size (.cells #[.int .i64 0, .int .i64 0] 28))
          exact HK1.out _ _ ⟨hS1, HK.out hS1⟩
      case fin =>
        intro vals W hE hSW
        have e7 : vals 7 = (.agg #[.int .i64 q.1, .int .i64 q.2]) := hE.each 7 (by decide)
        have e11 : vals 11 = (.agg #[.int .i64 r.1, .int .i64 r.2]) := hE.each 11 (by decide)
        obtain ⟨g4, e12, l4, u4, b4⟩ : ∃ g, vals 12 = .pointer (some ⟨g, 0, none⟩) ∧ _ ≤ g ∧ g < W.heap.size ∧ W.heap[g]? = some (.cells #[.int .i64 0, .int .i64 0] 28) := hE.each 12 (by decide)
        obtain ⟨g5, e13, l5, u5, b5⟩ : ∃ g, vals 13 = .pointer (some ⟨g, 0, none⟩) ∧ _ ≤ g ∧ g < W.heap.size ∧ W.heap[g]? = some (.cells #[.int .i64 0, .int .i64 0] 28) := hE.each 13 (by decide)
        obtain ⟨g6, e14, l6, u6, b6⟩ : ∃ g, vals 14 = .pointer (some ⟨g, 0, none⟩) ∧ _ ≤ g ∧ g < W.heap.size ∧ W.heap[g]? = some (.cells #[.int .i64 0, .int .i64 0] 28) := hE.each 14 (by decide)
        have n45 : g4 ≠ g5 := hE.two 12 (by decide) 13 (by decide) (by decide) rfl rfl g4 g5 e12 e13
        have n46 : g4 ≠ g6 := hE.two 12 (by decide) 14 (by decide) (by decide) rfl rfl g4 g6 e12 e14
        have n56 : g5 ≠ g6 := hE.two 13 (by decide) 14 (by decide) (by decide) rfl rfl g5 g6 e13 e14
        have s4 := Pt2.of 0 0 _ b4
        have s5 := Pt2.of 0 0 _ b5
        have s6 := Pt2.of 0 0 _ b6
        have BW := hSW.2.2
        have z := hB.size
        simp at l4 l5 l6
        simp only [Batch.puts, Batch.marks, e7, e11, e12, e13, e14, Batch.dstOf, List.getElem?_toArray, List.getElem?_cons_succ, List.getElem?_cons_zero, Option.bind_some, Act.put, List.setIfInBounds_toArray, List.set_cons_zero, List.set_cons_succ]
        clear e7 e11 e12 e13 e14 b4 b5 b6 hE hSW hHeld
        refine wpAnyH_ready (rs := [15]) (by kernel_rfl) (by simp) (AllReadyH.cons rfl (fun K hK => ?_) AllReadyH.nil)
        simp only [List.getElem_toArray, List.getElem_cons_succ, List.getElem_cons_zero]
        have a4 := s4
        obtain ⟨a0, a1, a2, a3⟩ := a4
        go_simp
        clear a0 a1 a2 a3
        have t4 := s4.set p.1 p.2
        have B4 : Below w.heap.size w ((W.setCell ⟨g4, 0, none⟩ (.int .i64 p.1)).setCell ⟨g4, 1, none⟩ (.int .i64 p.2)) := (BW.setCell (by simp; omega) _).setCell (by simp; omega) _
        have t5 := (s5.far (p := ⟨g4, 0, none⟩) (.int .i64 p.1) n45).far (p := ⟨g4, 1, none⟩) (.int .i64 p.2) n45
        have t6 := (s6.far (p := ⟨g4, 0, none⟩) (.int .i64 p.1) n46).far (p := ⟨g4, 1, none⟩) (.int .i64 p.2) n46
        clear s4 s5 s6
        generalize (W.setCell ⟨g4, 0, none⟩ (.int .i64 p.1)).setCell ⟨g4, 1, none⟩ (.int .i64 p.2) = W1 at t4 t5 t6 B4 ⊢
        have s4 := t4; have s5 := t5; have s6 := t6; have BW1 := B4
        clear t4 t5 t6 BW B4
        have BW := BW1
        clear BW1
        refine hK.out _ _ (HS.out _ BW) (fun _ => ?_)
        clear hK K
        refine wpAnyH_ready (rs := [16]) (by kernel_rfl) (by simp) (AllReadyH.cons rfl (fun K hK => ?_) AllReadyH.nil)
        simp only [List.getElem_toArray, List.getElem_cons_succ, List.getElem_cons_zero]
        have a5 := s5
        obtain ⟨a0, a1, a2, a3⟩ := a5
        go_simp
        clear a0 a1 a2 a3
        have t5 := s5.set q.1 q.2
        have B5 : Below w.heap.size w ((W1.setCell ⟨g5, 0, none⟩ (.int .i64 q.1)).setCell ⟨g5, 1, none⟩ (.int .i64 q.2)) := (BW.setCell (by simp; omega) _).setCell (by simp; omega) _
        have t4 := (s4.far (p := ⟨g5, 0, none⟩) (.int .i64 q.1) n45.symm).far (p := ⟨g5, 1, none⟩) (.int .i64 q.2) n45.symm
        have t6 := (s6.far (p := ⟨g5, 0, none⟩) (.int .i64 q.1) n56).far (p := ⟨g5, 1, none⟩) (.int .i64 q.2) n56
        clear s4 s5 s6
        generalize (W1.setCell ⟨g5, 0, none⟩ (.int .i64 q.1)).setCell ⟨g5, 1, none⟩ (.int .i64 q.2) = W2 at t4 t5 t6 B5 ⊢
        have s4 := t4; have s5 := t5; have s6 := t6; have BW1 := B5
        clear t4 t5 t6 BW B5
        have BW := BW1
        clear BW1
        refine hK.out _ _ (HS.out _ BW) (fun _ => ?_)
        clear hK K
        refine wpAnyH_ready (rs := [17]) (by kernel_rfl) (by simp) (AllReadyH.cons rfl (fun K hK => ?_) AllReadyH.nil)
        simp only [List.getElem_toArray, List.getElem_cons_succ, List.getElem_cons_zero]
        have a6 := s6
        obtain ⟨a0, a1, a2, a3⟩ := a6
        go_simp
        clear a0 a1 a2 a3
        have t6 := s6.set r.1 r.2
        have B6 : Below w.heap.size w ((W2.setCell ⟨g6, 0, none⟩ (.int .i64 r.1)).setCell ⟨g6, 1, none⟩ (.int .i64 r.2)) := (BW.setCell (by simp; omega) _).setCell (by simp; omega) _
        have t4 := (s4.far (p := ⟨g6, 0, none⟩) (.int .i64 r.1) n46.symm).far (p := ⟨g6, 1, none⟩) (.int .i64 r.2) n46.symm
        have t5 := (s5.far (p := ⟨g6, 0, none⟩) (.int .i64 r.1) n56.symm).far (p := ⟨g6, 1, none⟩) (.int .i64 r.2) n56.symm
        clear s4 s5 s6
        generalize (W2.setCell ⟨g6, 0, none⟩ (.int .i64 r.1)).setCell ⟨g6, 1, none⟩ (.int .i64 r.2) = W3 at t4 t5 t6 B6 ⊢
        have s4 := t4; have s5 := t5; have s6 := t6; have BW1 := B6
        clear t4 t5 t6 BW B6
        have BW := BW1
        clear BW1
        refine hK.out _ _ (HS.out _ BW) (fun _ => ?_)
        clear hK K
        refine wpAnyH_done (by kernel_rfl) ?_ _
        have a4 := s4; have a5 := s5; have a6 := s6
        obtain ⟨x0, x1, _, _⟩ := a4
        obtain ⟨y0, y1, _, _⟩ := a5
        obtain ⟨z0, z1, _, _⟩ := a6
        clear l4 l5 l6 u4 u5 u6 n45 n46 n56
        go_wp2_with fail
        refine (on_any _ _ _ _ _ _ _ m1 m2 m3).mono ?_
        rintro e w4 ⟨rfl, hb4⟩
        have B4 := BW.trans (hb4.mono BW.size)
        have t4 := s4.later hb4; have t5 := s5.later hb4; have t6 := s6.later hb4
        clear hb4 s4 s5 s6 x0 x1 y0 y1 z0 z1
        obtain ⟨x0, x1, _, _⟩ := t4
        obtain ⟨y0, y1, _, _⟩ := t5
        obtain ⟨z0, z1, _, _⟩ := t6
        cases h1 : onB p.1 p.2 q.1 q.2 r.1 r.2
        · go_wp2_with fail
          refine (on_any _ _ _ _ _ _ _ m2 m3 m1).mono ?_
          rintro e w5 ⟨rfl, hb5⟩
          have B5 := B4.trans (hb5.mono B4.size)
          clear hb5 x0 x1 y0 y1 z0 z1
          cases h2 : onB q.1 q.2 r.1 r.2 p.1 p.2
          · go_wp2_with fail
            go_roundw
            case rel => exact ⟨k + 1, by omega, by go_num, anyTo_next HN.out (by unfold turnF onP; rw [← HP.out, ← HQ.out, ← HR.out, h1, h2]; rfl), B5⟩
            case measure => simp [intOf]; omega
          · go_wp2_with fail
            rw [show turnsB l = true from anyTo_yes hkl (by unfold turnF onP; rw [← HP.out, ← HQ.out, ← HR.out, h2]; simp)]
            go_ret
            exact ⟨rfl, B5⟩
        · go_wp2_with fail
          rw [show turnsB l = true from anyTo_yes hkl (by unfold turnF onP; rw [← HP.out, ← HQ.out, ← HR.out, h1]; simp)]
          go_ret
          exact ⟨rfl, B4⟩
    · have hkn : k = n := by have := E.out; omega
      have HT : Hid (turnsB l = false) := Lib.hid (by unfold turnsB; rw [← E.out, ← hkn]; exact HN.out)
      clear hkn
      go_wp2_with fail
      rw [HT.out]
      go_ret
      exact ⟨rfl, hB⟩
end Go.Proofs.Ytiggjaodfmelpaa.Pl
