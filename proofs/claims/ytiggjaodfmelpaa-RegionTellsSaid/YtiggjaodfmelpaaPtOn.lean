/-
  Contracts of inBox and On of layer 1 (point) and of On's document's answer, for points that may be. Memory that was there is left as it was.
-/
import Derived.Test.YtiggjaodfmelpaaPtTurn
namespace Go.Proofs.Ytiggjaodfmelpaa.Pt
open Go.RowKit

theorem inBox_any (ax ay bx b2 cx cy : Int) (w : World) :
    Calls Try.prog 63 #[.agg #[.int .i64 ax, .int .i64 ay], .agg #[.int .i64 bx, .int .i64 b2], .agg #[.int .i64 cx, .int .i64 cy]] w fun e w' => e = .returned (.bool (boxB ax ay bx b2 cx cy)) ∧ Below w.heap.size w w' := by
  by_cases h1 : btw ax bx cx = true
  · rw [show boxB ax ay bx b2 cx cy = btw ay b2 cy by unfold boxB; rw [h1]; rfl]
    go_enter Try.func63, Try.ntmps63
    go_wp2_with (go_at_call 67; refine (between_any _ _ _ _).mono ?_; rintro e w' ⟨rfl, rfl⟩)
    go_ret
    exact ⟨rfl, (((Below.refl _ _).alloc (Nat.le_refl _) _).alloc (by simp) _).alloc (by simp; omega) _⟩
  · have h0 : btw ax bx cx = false := by simpa using h1
    rw [show boxB ax ay bx b2 cx cy = false by unfold boxB; rw [h0]; rfl]
    go_enter Try.func63, Try.ntmps63
    go_wp2_with (go_at_call 67; refine (between_any _ _ _ _).mono ?_; rintro e w' ⟨rfl, rfl⟩)
    go_ret
    exact ⟨rfl, (((Below.refl _ _).alloc (Nat.le_refl _) _).alloc (by simp) _).alloc (by simp; omega) _⟩

/-- Three blocks that a call lays for its arguments, and what a callee lays behind them. -/
theorem below3 {w w1 : World} {o1 o2 o3 : Obj} (h : Below (((w.alloc o1).alloc o2).alloc o3).heap.size (((w.alloc o1).alloc o2).alloc o3) w1) : Below w.heap.size w w1 :=
  ((((Below.refl _ _).alloc (Nat.le_refl _) _).alloc (by simp) _).alloc (by simp; omega) _).trans (h.mono (by simp; omega))

theorem on_any (ax ay bx b2 cx cy : Int) (w : World) (ha : mayB ax ay = true) (hb : mayB bx b2 = true) (hc : mayB cx cy = true) :
    Calls Try.prog 56 #[.agg #[.int .i64 ax, .int .i64 ay], .agg #[.int .i64 bx, .int .i64 b2], .agg #[.int .i64 cx, .int .i64 cy]] w fun e w' => e = .returned (.bool (onB ax ay bx b2 cx cy)) ∧ Below w.heap.size w w' := by
  have t := fun W => turn_any ax ay bx b2 cx cy W ha hb hc
  have T := Lib.hid t; clear t ha hb hc
  by_cases h1 : (turnI ax ay bx b2 cx cy == 0) = true
  · rw [onB_of_turn h1]
    go_enter Try.func56, Try.ntmps56
    go_wp2_with fail
    refine (T.out _).mono ?_
    rintro e w1 ⟨rfl, hb1⟩
    obtain ⟨hc1, hf1⟩ := bcell hb1
    have B1 := Lib.hid (below3 hb1)
    have hz1 : w.heap.size + 3 ≤ w1.heap.size := by have := hb1.size; simp at this; omega
    clear hb1
    go_wp2_with fail
    refine (inBox_any _ _ _ _ _ _ _).mono ?_
    rintro e w2 ⟨rfl, hb2⟩
    have B2 := Lib.hid (B1.out.trans (hb2.mono (by omega)))
    clear hb2
    go_wp2_with fail
    go_ret
    exact ⟨rfl, B2.out⟩
  · have h0 : (turnI ax ay bx b2 cx cy == 0) = false := by simpa using h1
    rw [onB_of_not h0]
    clear h1
    go_enter Try.func56, Try.ntmps56
    go_wp2_with fail
    refine (T.out _).mono ?_
    rintro e w1 ⟨rfl, hb1⟩
    have B1 := Lib.hid (below3 hb1)
    clear hb1
    go_wp2_with fail
    go_ret
    exact ⟨rfl, B1.out⟩
end Go.Proofs.Ytiggjaodfmelpaa.Pt
