/-
  Contracts of parts, touches and Cross of layer 1 (point), for points that may be. Memory that was there is left as it was.
-/
import Derived.Test.YtiggjaodfmelpaaPtOn
import Derived.Deep.RegionHeld3
import Derived.IntWalk
namespace Go.Proofs.Ytiggjaodfmelpaa.Pt
open Go.RowKit

/-- Four points laid in new blocks: what a callee that only makes memory leaves of them. -/
theorem keep4 {w W w1 : World} {a0 a1 b0 b1 c0 c1 d0 d1 : Value} (hb : Below W.heap.size W w1)
    (hs : W.cell? ⟨w.heap.size, 0, none⟩ = some a0 ∧ W.cell? ⟨w.heap.size, 1, none⟩ = some a1 ∧ W.cell? ⟨w.heap.size + 1, 0, none⟩ = some b0 ∧ W.cell? ⟨w.heap.size + 1, 1, none⟩ = some b1
      ∧ W.cell? ⟨w.heap.size + 1 + 1, 0, none⟩ = some c0 ∧ W.cell? ⟨w.heap.size + 1 + 1, 1, none⟩ = some c1 ∧ W.cell? ⟨w.heap.size + 1 + 1 + 1, 0, none⟩ = some d0 ∧ W.cell? ⟨w.heap.size + 1 + 1 + 1, 1, none⟩ = some d1
      ∧ w.heap.size + 4 ≤ W.heap.size ∧ Below w.heap.size w W) :
    w1.cell? ⟨w.heap.size, 0, none⟩ = some a0 ∧ w1.cell? ⟨w.heap.size, 1, none⟩ = some a1 ∧ w1.cell? ⟨w.heap.size + 1, 0, none⟩ = some b0 ∧ w1.cell? ⟨w.heap.size + 1, 1, none⟩ = some b1
      ∧ w1.cell? ⟨w.heap.size + 1 + 1, 0, none⟩ = some c0 ∧ w1.cell? ⟨w.heap.size + 1 + 1, 1, none⟩ = some c1 ∧ w1.cell? ⟨w.heap.size + 1 + 1 + 1, 0, none⟩ = some d0 ∧ w1.cell? ⟨w.heap.size + 1 + 1 + 1, 1, none⟩ = some d1
      ∧ w.heap.size + 4 ≤ w1.heap.size ∧ Below w.heap.size w w1 := by
  obtain ⟨h1, h2, h3, h4, h5, h6, h7, h8, hz, hB⟩ := hs
  obtain ⟨hc, _⟩ := bcell hb
  have hsz := hb.size
  refine ⟨?_, ?_, ?_, ?_, ?_, ?_, ?_, ?_, by omega, hB.trans (hb.mono (by omega))⟩
  · rw [hc _ _ (by omega)]; exact h1
  · rw [hc _ _ (by omega)]; exact h2
  · rw [hc _ _ (by omega)]; exact h3
  · rw [hc _ _ (by omega)]; exact h4
  · rw [hc _ _ (by omega)]; exact h5
  · rw [hc _ _ (by omega)]; exact h6
  · rw [hc _ _ (by omega)]; exact h7
  · rw [hc _ _ (by omega)]; exact h8

/-- Four points, laid. -/
theorem laid4 (w : World) (a0 a1 b0 b1 c0 c1 d0 d1 : Value) (t : TypeId) :
    let W := (((w.alloc (.cells #[a0, a1] t)).alloc (.cells #[b0, b1] t)).alloc (.cells #[c0, c1] t)).alloc (.cells #[d0, d1] t)
    W.cell? ⟨w.heap.size, 0, none⟩ = some a0 ∧ W.cell? ⟨w.heap.size, 1, none⟩ = some a1 ∧ W.cell? ⟨w.heap.size + 1, 0, none⟩ = some b0 ∧ W.cell? ⟨w.heap.size + 1, 1, none⟩ = some b1
      ∧ W.cell? ⟨w.heap.size + 1 + 1, 0, none⟩ = some c0 ∧ W.cell? ⟨w.heap.size + 1 + 1, 1, none⟩ = some c1 ∧ W.cell? ⟨w.heap.size + 1 + 1 + 1, 0, none⟩ = some d0 ∧ W.cell? ⟨w.heap.size + 1 + 1 + 1, 1, none⟩ = some d1
      ∧ w.heap.size + 4 ≤ W.heap.size ∧ Below w.heap.size w W := by
  intro W
  refine ⟨?_, ?_, ?_, ?_, ?_, ?_, ?_, ?_, ?_, ?_⟩
  all_goals try (simp [W, go_sem]; done)
  exact ((((Below.refl _ _).alloc (Nat.le_refl _) _).alloc (by simp) _).alloc (by simp; omega) _).alloc (by simp; omega) _
theorem drew4 {w W : World} {a0 a1 b0 b1 c0 c1 d0 d1 : Value}
    (hs : W.cell? ⟨w.heap.size, 0, none⟩ = some a0 ∧ W.cell? ⟨w.heap.size, 1, none⟩ = some a1 ∧ W.cell? ⟨w.heap.size + 1, 0, none⟩ = some b0 ∧ W.cell? ⟨w.heap.size + 1, 1, none⟩ = some b1
      ∧ W.cell? ⟨w.heap.size + 1 + 1, 0, none⟩ = some c0 ∧ W.cell? ⟨w.heap.size + 1 + 1, 1, none⟩ = some c1 ∧ W.cell? ⟨w.heap.size + 1 + 1 + 1, 0, none⟩ = some d0 ∧ W.cell? ⟨w.heap.size + 1 + 1 + 1, 1, none⟩ = some d1
      ∧ w.heap.size + 4 ≤ W.heap.size ∧ Below w.heap.size w W) :
    W.drew.cell? ⟨w.heap.size, 0, none⟩ = some a0 ∧ W.drew.cell? ⟨w.heap.size, 1, none⟩ = some a1 ∧ W.drew.cell? ⟨w.heap.size + 1, 0, none⟩ = some b0 ∧ W.drew.cell? ⟨w.heap.size + 1, 1, none⟩ = some b1
      ∧ W.drew.cell? ⟨w.heap.size + 1 + 1, 0, none⟩ = some c0 ∧ W.drew.cell? ⟨w.heap.size + 1 + 1, 1, none⟩ = some c1 ∧ W.drew.cell? ⟨w.heap.size + 1 + 1 + 1, 0, none⟩ = some d0 ∧ W.drew.cell? ⟨w.heap.size + 1 + 1 + 1, 1, none⟩ = some d1
      ∧ w.heap.size + 4 ≤ W.drew.heap.size ∧ Below w.heap.size w W.drew := by
  obtain ⟨h1, h2, h3, h4, h5, h6, h7, h8, hz, hB⟩ := hs
  exact ⟨h1, h2, h3, h4, h5, h6, h7, h8, hz, hB.drew⟩
/-- What is left of memory behind the last of them. -/
theorem last4 {p0 p1 p2 p3 p4 p5 p6 p7 p8 : Prop} {w W : World} (h : p0 ∧ p1 ∧ p2 ∧ p3 ∧ p4 ∧ p5 ∧ p6 ∧ p7 ∧ p8 ∧ Below w.heap.size w W) : Below w.heap.size w W := h.2.2.2.2.2.2.2.2.2

theorem parts_any (ax ay bx b2 cx cy dx dy : Int) (w : World) (ha : mayB ax ay = true) (hb : mayB bx b2 = true) (hc : mayB cx cy = true) (hd : mayB dx dy = true) :
    Calls Try.prog 64 #[.agg #[.int .i64 ax, .int .i64 ay], .agg #[.int .i64 bx, .int .i64 b2], .agg #[.int .i64 cx, .int .i64 cy], .agg #[.int .i64 dx, .int .i64 dy]] w fun e w' => e = .returned (.bool (partB ax ay bx b2 cx cy dx dy)) ∧ Below w.heap.size w w' := by
  have t1 := turnI_bd ax ay bx b2 cx cy
  have t2 := turnI_bd ax ay bx b2 dx dy
  have t3 := mul_bd (x := turnI ax ay bx b2 cx cy) (y := turnI ax ay bx b2 dx dy) (by omega) (by omega) (by omega) (by omega)
  have t4 := IntWalk.i64_in (turnI ax ay bx b2 cx cy * turnI ax ay bx b2 dx dy) (by omega)
  clear t1 t2 t3
  have L := Lib.hid (laid4 w (.int .i64 ax) (.int .i64 ay) (.int .i64 bx) (.int .i64 b2) (.int .i64 cx) (.int .i64 cy) (.int .i64 dx) (.int .i64 dy) 28)
  go_enter Try.func64, Try.ntmps64
  go_wp2_with fail
  go_region_held3 (fun W => W.cell? ⟨w.heap.size, 0, none⟩ = some (.int .i64 ax) ∧ W.cell? ⟨w.heap.size, 1, none⟩ = some (.int .i64 ay) ∧ W.cell? ⟨w.heap.size + 1, 0, none⟩ = some (.int .i64 bx) ∧ W.cell? ⟨w.heap.size + 1, 1, none⟩ = some (.int .i64 b2) ∧ W.cell? ⟨w.heap.size + 1 + 1, 0, none⟩ = some (.int .i64 cx) ∧ W.cell? ⟨w.heap.size + 1 + 1, 1, none⟩ = some (.int .i64 cy) ∧ W.cell? ⟨w.heap.size + 1 + 1 + 1, 0, none⟩ = some (.int .i64 dx) ∧ W.cell? ⟨w.heap.size + 1 + 1 + 1, 1, none⟩ = some (.int .i64 dy) ∧ w.heap.size + 4 ≤ W.heap.size ∧ Below w.heap.size w W)
    (first | exact drew4 L.out | exact keep4 (by assumption) (by assumption))
    (first | (go_at_call 62; refine (turn_any _ _ _ _ _ _ _ (by assumption) (by assumption) (by assumption)).mono ?_; rintro e w1 ⟨rfl, hb1⟩))
  go_wp2_with fail
  go_ret
  exact ⟨rfl, last4 (by assumption)⟩

theorem touches_any (ax ay bx b2 cx cy dx dy : Int) (w : World) (ha : mayB ax ay = true) (hb : mayB bx b2 = true) (hc : mayB cx cy = true) (hd : mayB dx dy = true) :
    Calls Try.prog 65 #[.agg #[.int .i64 ax, .int .i64 ay], .agg #[.int .i64 bx, .int .i64 b2], .agg #[.int .i64 cx, .int .i64 cy], .agg #[.int .i64 dx, .int .i64 dy]] w fun e w' => e = .returned (.bool (touchB ax ay bx b2 cx cy dx dy)) ∧ Below w.heap.size w w' := by
  have L := laid4 w (.int .i64 ax) (.int .i64 ay) (.int .i64 bx) (.int .i64 b2) (.int .i64 cx) (.int .i64 cy) (.int .i64 dx) (.int .i64 dy) 28
  by_cases h1 : onB ax ay bx b2 cx cy = true
  · rw [show touchB ax ay bx b2 cx cy dx dy = true by unfold touchB; rw [h1]; rfl]
    go_enter Try.func65, Try.ntmps65
    go_wp2_with (go_at_call 56; refine (on_any _ _ _ _ _ _ _ (by assumption) (by assumption) (by assumption)).mono ?_; rintro e w1 ⟨rfl, hb1⟩; have K1 := keep4 hb1 (by assumption); clear hb1)
    go_ret
    exact ⟨rfl, last4 (by assumption)⟩
  have e1 : onB ax ay bx b2 cx cy = false := by simpa using h1
  clear h1
  by_cases h2 : onB ax ay bx b2 dx dy = true
  · rw [show touchB ax ay bx b2 cx cy dx dy = true by unfold touchB; rw [e1, h2]; rfl]
    go_enter Try.func65, Try.ntmps65
    go_wp2_with (go_at_call 56; refine (on_any _ _ _ _ _ _ _ (by assumption) (by assumption) (by assumption)).mono ?_; rintro e w1 ⟨rfl, hb1⟩; have K1 := keep4 hb1 (by assumption); clear hb1)
    go_ret
    exact ⟨rfl, last4 (by assumption)⟩
  have e2 : onB ax ay bx b2 dx dy = false := by simpa using h2
  clear h2
  by_cases h3 : onB cx cy dx dy ax ay = true
  · rw [show touchB ax ay bx b2 cx cy dx dy = true by unfold touchB; rw [e1, e2, h3]; rfl]
    go_enter Try.func65, Try.ntmps65
    go_wp2_with (go_at_call 56; refine (on_any _ _ _ _ _ _ _ (by assumption) (by assumption) (by assumption)).mono ?_; rintro e w1 ⟨rfl, hb1⟩; have K1 := keep4 hb1 (by assumption); clear hb1)
    go_ret
    exact ⟨rfl, last4 (by assumption)⟩
  have e3 : onB cx cy dx dy ax ay = false := by simpa using h3
  clear h3
  rw [show touchB ax ay bx b2 cx cy dx dy = onB cx cy dx dy bx b2 by unfold touchB; rw [e1, e2, e3]; rfl]
  go_enter Try.func65, Try.ntmps65
  go_wp2_with (go_at_call 56; refine (on_any _ _ _ _ _ _ _ (by assumption) (by assumption) (by assumption)).mono ?_; rintro e w1 ⟨rfl, hb1⟩; have K1 := keep4 hb1 (by assumption); clear hb1)
  go_ret
  exact ⟨rfl, last4 (by assumption)⟩

theorem cross_any (ax ay bx b2 cx cy dx dy : Int) (w : World) (ha : mayB ax ay = true) (hb : mayB bx b2 = true) (hc : mayB cx cy = true) (hd : mayB dx dy = true) :
    Calls Try.prog 58 #[.agg #[.int .i64 ax, .int .i64 ay], .agg #[.int .i64 bx, .int .i64 b2], .agg #[.int .i64 cx, .int .i64 cy], .agg #[.int .i64 dx, .int .i64 dy]] w fun e w' => e = .returned (.bool (crossB ax ay bx b2 cx cy dx dy)) ∧ Below w.heap.size w w' := by
  have L := laid4 w (.int .i64 ax) (.int .i64 ay) (.int .i64 bx) (.int .i64 b2) (.int .i64 cx) (.int .i64 cy) (.int .i64 dx) (.int .i64 dy) 28
  by_cases h1 : partB ax ay bx b2 cx cy dx dy = true
  · by_cases h2 : partB cx cy dx dy ax ay bx b2 = true
    · rw [show crossB ax ay bx b2 cx cy dx dy = true by unfold crossB; rw [h1, h2]; rfl]
      go_enter Try.func58, Try.ntmps58
      go_wp2_with (first | (go_at_call 64; refine (parts_any _ _ _ _ _ _ _ _ _ (by assumption) (by assumption) (by assumption) (by assumption)).mono ?_; rintro e w1 ⟨rfl, hb1⟩; have K1 := keep4 hb1 (by assumption); clear hb1) | (go_at_call 65; refine (touches_any _ _ _ _ _ _ _ _ _ (by assumption) (by assumption) (by assumption) (by assumption)).mono ?_; rintro e w1 ⟨rfl, hb1⟩; have K1 := keep4 hb1 (by assumption); clear hb1))
      go_ret
      exact ⟨rfl, last4 (by assumption)⟩
    · have e2 : partB cx cy dx dy ax ay bx b2 = false := by simpa using h2
      clear h2
      rw [show crossB ax ay bx b2 cx cy dx dy = touchB ax ay bx b2 cx cy dx dy by unfold crossB; rw [h1, e2]; rfl]
      go_enter Try.func58, Try.ntmps58
      go_wp2_with (first | (go_at_call 64; refine (parts_any _ _ _ _ _ _ _ _ _ (by assumption) (by assumption) (by assumption) (by assumption)).mono ?_; rintro e w1 ⟨rfl, hb1⟩; have K1 := keep4 hb1 (by assumption); clear hb1) | (go_at_call 65; refine (touches_any _ _ _ _ _ _ _ _ _ (by assumption) (by assumption) (by assumption) (by assumption)).mono ?_; rintro e w1 ⟨rfl, hb1⟩; have K1 := keep4 hb1 (by assumption); clear hb1))
      go_ret
      exact ⟨rfl, last4 (by assumption)⟩
  · have e1 : partB ax ay bx b2 cx cy dx dy = false := by simpa using h1
    clear h1
    rw [show crossB ax ay bx b2 cx cy dx dy = touchB ax ay bx b2 cx cy dx dy by unfold crossB; rw [e1]; rfl]
    go_enter Try.func58, Try.ntmps58
    go_wp2_with (first | (go_at_call 64; refine (parts_any _ _ _ _ _ _ _ _ _ (by assumption) (by assumption) (by assumption) (by assumption)).mono ?_; rintro e w1 ⟨rfl, hb1⟩; have K1 := keep4 hb1 (by assumption); clear hb1) | (go_at_call 65; refine (touches_any _ _ _ _ _ _ _ _ _ (by assumption) (by assumption) (by assumption) (by assumption)).mono ?_; rintro e w1 ⟨rfl, hb1⟩; have K1 := keep4 hb1 (by assumption); clear hb1))
    go_ret
    exact ⟨rfl, last4 (by assumption)⟩
end Go.Proofs.Ytiggjaodfmelpaa.Pt
