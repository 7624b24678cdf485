/-
  The contract of Add of layer 1 (point), for any two points: the sum and no error where both and the sum may be, else a zero point and ErrRange. Memory that was there is left as it was.
-/
import Derived.Test.YtiggjaodfmelpaaPtTurn
import Derived.Outline
namespace Go.Proofs.Ytiggjaodfmelpaa.Pt
open Go.RowKit

/-- Three blocks of two cells, the last of them not frozen: what a callee that only makes memory leaves of them. -/
theorem keep3 {w W w1 : World} {a0 a1 b0 b1 c0 c1 : Value} (hb : Below W.heap.size W w1)
    (hs : W.cell? ⟨w.heap.size, 0, none⟩ = some a0 ∧ W.cell? ⟨w.heap.size, 1, none⟩ = some a1 ∧ W.cell? ⟨w.heap.size + 1, 0, none⟩ = some b0 ∧ W.cell? ⟨w.heap.size + 1, 1, none⟩ = some b1
      ∧ W.cell? ⟨w.heap.size + 1 + 1, 0, none⟩ = some c0 ∧ W.cell? ⟨w.heap.size + 1 + 1, 1, none⟩ = some c1 ∧ W.frozen? ⟨w.heap.size + 1 + 1, 0, none⟩ = false ∧ W.frozen? ⟨w.heap.size + 1 + 1, 1, none⟩ = false
      ∧ w.heap.size + 3 ≤ W.heap.size ∧ Below w.heap.size w W) :
    w1.cell? ⟨w.heap.size, 0, none⟩ = some a0 ∧ w1.cell? ⟨w.heap.size, 1, none⟩ = some a1 ∧ w1.cell? ⟨w.heap.size + 1, 0, none⟩ = some b0 ∧ w1.cell? ⟨w.heap.size + 1, 1, none⟩ = some b1
      ∧ w1.cell? ⟨w.heap.size + 1 + 1, 0, none⟩ = some c0 ∧ w1.cell? ⟨w.heap.size + 1 + 1, 1, none⟩ = some c1 ∧ w1.frozen? ⟨w.heap.size + 1 + 1, 0, none⟩ = false ∧ w1.frozen? ⟨w.heap.size + 1 + 1, 1, none⟩ = false
      ∧ w.heap.size + 3 ≤ w1.heap.size ∧ Below w.heap.size w w1 := by
  obtain ⟨h1, h2, h3, h4, h5, h6, h7, h8, hz, hB⟩ := hs
  obtain ⟨hc, hf⟩ := bcell hb
  have hsz := hb.size
  refine ⟨?_, ?_, ?_, ?_, ?_, ?_, ?_, ?_, by omega, hB.trans (hb.mono (by omega))⟩
  · rw [hc _ _ (by omega)]; exact h1
  · rw [hc _ _ (by omega)]; exact h2
  · rw [hc _ _ (by omega)]; exact h3
  · rw [hc _ _ (by omega)]; exact h4
  · rw [hc _ _ (by omega)]; exact h5
  · rw [hc _ _ (by omega)]; exact h6
  · rw [hf _ _ (by omega)]; exact h7
  · rw [hf _ _ (by omega)]; exact h8
theorem laid3 (w : World) (a0 a1 b0 b1 c0 c1 : Value) (t : TypeId) :
    let W := (((w.alloc (.cells #[a0, a1] t)).alloc (.cells #[b0, b1] t)).alloc (.cells #[c0, c1] t))
    W.cell? ⟨w.heap.size, 0, none⟩ = some a0 ∧ W.cell? ⟨w.heap.size, 1, none⟩ = some a1 ∧ W.cell? ⟨w.heap.size + 1, 0, none⟩ = some b0 ∧ W.cell? ⟨w.heap.size + 1, 1, none⟩ = some b1
      ∧ W.cell? ⟨w.heap.size + 1 + 1, 0, none⟩ = some c0 ∧ W.cell? ⟨w.heap.size + 1 + 1, 1, none⟩ = some c1 ∧ W.frozen? ⟨w.heap.size + 1 + 1, 0, none⟩ = false ∧ W.frozen? ⟨w.heap.size + 1 + 1, 1, none⟩ = false
      ∧ w.heap.size + 3 ≤ W.heap.size ∧ Below w.heap.size w W := by
  intro W
  refine ⟨?_, ?_, ?_, ?_, ?_, ?_, ?_, ?_, ?_, ?_⟩
  all_goals try (simp [W, go_sem]; done)
  exact (((Below.refl _ _).alloc (Nat.le_refl _) _).alloc (by simp) _).alloc (by simp; omega) _

theorem last3 {p0 p1 p2 p3 p4 p5 p6 p7 p8 : Prop} {w W : World} (h : p0 ∧ p1 ∧ p2 ∧ p3 ∧ p4 ∧ p5 ∧ p6 ∧ p7 ∧ p8 ∧ Below w.heap.size w W) : Below w.heap.size w W := h.2.2.2.2.2.2.2.2.2

set_option maxHeartbeats 400000 in
theorem add_no1 (px py dx dy : Int) (w : World) (h1 : mayB px py = false) :
    Calls Try.prog 53 #[.agg #[.int .i64 px, .int .i64 py], .agg #[.int .i64 dx, .int .i64 dy]] w fun e w' => e = .returned (.tuple #[.agg #[.int .i64 0, .int .i64 0], .iface 37 (.int .i64 11)]) ∧ Below w.heap.size w w' := by
  have L := laid3 w (.int .i64 px) (.int .i64 py) (.int .i64 dx) (.int .i64 dy) (.int .i64 0) (.int .i64 0) 28
  go_enter Try.func53, Try.ntmps53
  go_wp2_with (go_at_call 28; refine (may_any _ _ _).mono ?_; rintro e w1 ⟨rfl, hb1⟩; have K1 := keep3 hb1 (by assumption); clear hb1)
  refine bodyPost_ret (v := .tuple #[.agg #[.int .i64 0, .int .i64 0], .iface 37 (.int .i64 11)]) ?_ rfl ⟨rfl, ?_⟩
  · simp [results, Try.results53, go_sem, *]
  · exact ((last3 (by assumption)).setCell (by simp; omega) _).setCell (by simp; omega) _

set_option maxHeartbeats 400000 in
theorem add_no2 (px py dx dy : Int) (w : World) (h1 : mayB px py = true) (h2 : mayB dx dy = false) :
    Calls Try.prog 53 #[.agg #[.int .i64 px, .int .i64 py], .agg #[.int .i64 dx, .int .i64 dy]] w fun e w' => e = .returned (.tuple #[.agg #[.int .i64 0, .int .i64 0], .iface 37 (.int .i64 11)]) ∧ Below w.heap.size w w' := by
  have L := laid3 w (.int .i64 px) (.int .i64 py) (.int .i64 dx) (.int .i64 dy) (.int .i64 0) (.int .i64 0) 28
  go_enter Try.func53, Try.ntmps53
  go_wp2_with (go_at_call 28; refine (may_any _ _ _).mono ?_; rintro e w1 ⟨rfl, hb1⟩; have K1 := keep3 hb1 (by assumption); clear hb1)
  refine bodyPost_ret (v := .tuple #[.agg #[.int .i64 0, .int .i64 0], .iface 37 (.int .i64 11)]) ?_ rfl ⟨rfl, ?_⟩
  · simp [results, Try.results53, go_sem, *]
  · exact ((last3 (by assumption)).setCell (by simp; omega) _).setCell (by simp; omega) _

/-- A new block behind them. -/
theorem more3 {w W : World} {a0 a1 b0 b1 c0 c1 : Value} (o : Obj)
    (hs : W.cell? ⟨w.heap.size, 0, none⟩ = some a0 ∧ W.cell? ⟨w.heap.size, 1, none⟩ = some a1 ∧ W.cell? ⟨w.heap.size + 1, 0, none⟩ = some b0 ∧ W.cell? ⟨w.heap.size + 1, 1, none⟩ = some b1
      ∧ W.cell? ⟨w.heap.size + 1 + 1, 0, none⟩ = some c0 ∧ W.cell? ⟨w.heap.size + 1 + 1, 1, none⟩ = some c1 ∧ W.frozen? ⟨w.heap.size + 1 + 1, 0, none⟩ = false ∧ W.frozen? ⟨w.heap.size + 1 + 1, 1, none⟩ = false
      ∧ w.heap.size + 3 ≤ W.heap.size ∧ Below w.heap.size w W) :
    (W.alloc o).cell? ⟨w.heap.size, 0, none⟩ = some a0 ∧ (W.alloc o).cell? ⟨w.heap.size, 1, none⟩ = some a1 ∧ (W.alloc o).cell? ⟨w.heap.size + 1, 0, none⟩ = some b0 ∧ (W.alloc o).cell? ⟨w.heap.size + 1, 1, none⟩ = some b1
      ∧ (W.alloc o).cell? ⟨w.heap.size + 1 + 1, 0, none⟩ = some c0 ∧ (W.alloc o).cell? ⟨w.heap.size + 1 + 1, 1, none⟩ = some c1 ∧ (W.alloc o).frozen? ⟨w.heap.size + 1 + 1, 0, none⟩ = false ∧ (W.alloc o).frozen? ⟨w.heap.size + 1 + 1, 1, none⟩ = false
      ∧ w.heap.size + 3 ≤ (W.alloc o).heap.size ∧ Below w.heap.size w (W.alloc o) :=
  keep3 ((Below.refl _ _).alloc (Nat.le_refl _) _) hs

set_option maxHeartbeats 400000 in
theorem add_no3 (px py dx dy : Int) (w : World) (h1 : mayB px py = true) (h2 : mayB dx dy = true) (h3 : mayB (px + dx) (py + dy) = false) :
    Calls Try.prog 53 #[.agg #[.int .i64 px, .int .i64 py], .agg #[.int .i64 dx, .int .i64 dy]] w fun e w' => e = .returned (.tuple #[.agg #[.int .i64 0, .int .i64 0], .iface 37 (.int .i64 11)]) ∧ Below w.heap.size w w' := by
  have L := laid3 w (.int .i64 px) (.int .i64 py) (.int .i64 dx) (.int .i64 dy) (.int .i64 0) (.int .i64 0) 28
  obtain ⟨a1, a2⟩ := mayB_bd h1; obtain ⟨b1, b2⟩ := mayB_bd h2
  rw [inR_iff] at a1 a2 b1 b2
  obtain ⟨_, _⟩ := a1; obtain ⟨_, _⟩ := a2; obtain ⟨_, _⟩ := b1; obtain ⟨_, _⟩ := b2
  go_enter Try.func53, Try.ntmps53
  go_wp2_with fail
  refine (may_any _ _ _).mono ?_
  rintro e w1 ⟨rfl, hb1⟩
  have K1 := keep3 hb1 L; clear hb1
  go_wp2_with fail
  refine (may_any _ _ _).mono ?_
  rintro e w2 ⟨rfl, hb2⟩
  have K2 := keep3 hb2 K1; clear hb2
  go_wp2_with fail
  refine (may_any _ _ _).mono ?_
  rintro e w3 ⟨rfl, hb3⟩
  have K3 := keep3 hb3 (more3 _ K2); clear hb3
  go_wp2_with fail
  refine bodyPost_ret (v := .tuple #[.agg #[.int .i64 0, .int .i64 0], .iface 37 (.int .i64 11)]) ?_ rfl ⟨rfl, ?_⟩
  · simp [results, Try.results53, go_sem, *]
  · exact ((last3 (by assumption)).setCell (by simp; omega) _).setCell (by simp; omega) _

set_option maxHeartbeats 400000 in
theorem add_ok (px py dx dy : Int) (w : World) (h1 : mayB px py = true) (h2 : mayB dx dy = true) (h3 : mayB (px + dx) (py + dy) = true) :
    Calls Try.prog 53 #[.agg #[.int .i64 px, .int .i64 py], .agg #[.int .i64 dx, .int .i64 dy]] w fun e w' => e = .returned (.tuple #[.agg #[.int .i64 (px + dx), .int .i64 (py + dy)], .nilIface]) ∧ Below w.heap.size w w' := by
  have L := laid3 w (.int .i64 px) (.int .i64 py) (.int .i64 dx) (.int .i64 dy) (.int .i64 0) (.int .i64 0) 28
  obtain ⟨a1, a2⟩ := mayB_bd h1; obtain ⟨b1, b2⟩ := mayB_bd h2
  rw [inR_iff] at a1 a2 b1 b2
  obtain ⟨_, _⟩ := a1; obtain ⟨_, _⟩ := a2; obtain ⟨_, _⟩ := b1; obtain ⟨_, _⟩ := b2
  go_enter Try.func53, Try.ntmps53
  go_wp2_with fail
  refine (may_any _ _ _).mono ?_
  rintro e w1 ⟨rfl, hb1⟩
  have K1 := keep3 hb1 L; clear hb1
  go_wp2_with fail
  refine (may_any _ _ _).mono ?_
  rintro e w2 ⟨rfl, hb2⟩
  have K2 := keep3 hb2 K1; clear hb2
  go_wp2_with fail
  refine (may_any _ _ _).mono ?_
  rintro e w3 ⟨rfl, hb3⟩
  have K3 := keep3 hb3 (more3 _ K2)
  have Q1 : w3.cell? ⟨w2.heap.size, 0, none⟩ = some (.int .i64 (px + dx)) := by rw [hb3.cell (by simp)]; simp [go_sem]
  have Q2 : w3.cell? ⟨w2.heap.size, 1, none⟩ = some (.int .i64 (py + dy)) := by rw [hb3.cell (by simp)]; simp [go_sem]
  clear hb3
  go_wp2_with fail
  refine bodyPost_ret (v := .tuple #[.agg #[.int .i64 (px + dx), .int .i64 (py + dy)], .nilIface]) ?_ rfl ⟨rfl, ?_⟩
  · simp [results, Try.results53, go_sem, *]
  · exact ((last3 (by assumption)).setCell (by simp; omega) _).setCell (by simp; omega) _
end Go.Proofs.Ytiggjaodfmelpaa.Pt
