/-
  Contracts of May, Turn, On of layer 1 (point) and of their document's answers: May for any point; Turn, On for points that may be. Memory that was there is left as it was.
-/
import Derived.Test.YtiggjaodfmelpaaPtLeaf
import Derived.RowKit3
import Derived.Below
import Derived.Lib.Hide
namespace Go.Proofs.Ytiggjaodfmelpaa.Pt
open Go.RowKit

theorem turn_any (ax ay bx b2 cx cy : Int) (w : World) (ha : mayB ax ay = true) (hb : mayB bx b2 = true) (hc : mayB cx cy = true) :
    Calls Try.prog 62 #[.agg #[.int .i64 ax, .int .i64 ay], .agg #[.int .i64 bx, .int .i64 b2], .agg #[.int .i64 cx, .int .i64 cy]] w fun e w' => e = .returned (.int .i64 (turnI ax ay bx b2 cx cy)) ∧ Below w.heap.size w w' := by
  obtain ⟨a1, a2⟩ := mayB_bd ha; obtain ⟨b1, c1⟩ := mayB_bd hb; obtain ⟨d1, d2⟩ := mayB_bd hc
  have p1 := prod_bd b1 a1 d2 a2
  have p2 := prod_bd c1 a2 d1 a1
  rw [inR_iff] at a1 a2 b1 c1 d1 d2
  clear ha hb hc
  obtain ⟨_, _⟩ := a1; obtain ⟨_, _⟩ := a2; obtain ⟨_, _⟩ := b1; obtain ⟨_, _⟩ := c1; obtain ⟨_, _⟩ := d1; obtain ⟨_, _⟩ := d2; obtain ⟨_, _⟩ := p1; obtain ⟨_, _⟩ := p2
  go_enter Try.func62, Try.ntmps62
  go_wp2_with (go_at_call 66; refine (compare_any _ _ _).mono ?_; rintro e w' ⟨rfl, rfl⟩)
  go_ret
  exact ⟨rfl, (((Below.refl _ _).alloc (Nat.le_refl _) _).alloc (by simp) _).alloc (by simp; omega) _⟩

theorem refTurn_any (ax ay bx b2 cx cy : Int) (w : World) (ha : mayB ax ay = true) (hb : mayB bx b2 = true) (hc : mayB cx cy = true) :
    Calls Try.prog 50 #[.agg #[.int .i64 ax, .int .i64 ay], .agg #[.int .i64 bx, .int .i64 b2], .agg #[.int .i64 cx, .int .i64 cy]] w fun e w' => e = .returned (.int .i64 (turnI ax ay bx b2 cx cy)) ∧ Below w.heap.size w w' := by
  obtain ⟨a1, a2⟩ := mayB_bd ha; obtain ⟨b1, c1⟩ := mayB_bd hb; obtain ⟨d1, d2⟩ := mayB_bd hc
  have p1 := prod_bd b1 a1 d2 a2
  have p2 := prod_bd c1 a2 d1 a1
  rw [inR_iff] at a1 a2 b1 c1 d1 d2
  clear ha hb hc
  obtain ⟨_, _⟩ := a1; obtain ⟨_, _⟩ := a2; obtain ⟨_, _⟩ := b1; obtain ⟨_, _⟩ := c1; obtain ⟨_, _⟩ := d1; obtain ⟨_, _⟩ := d2; obtain ⟨_, _⟩ := p1; obtain ⟨_, _⟩ := p2
  have fin : Below w.heap.size w (((w.alloc (.cells #[.int .i64 ax, .int .i64 ay] 28)).alloc (.cells #[.int .i64 bx, .int .i64 b2] 28)).alloc (.cells #[.int .i64 cx, .int .i64 cy] 28)) :=
    (((Below.refl _ _).alloc (Nat.le_refl _) _).alloc (by simp) _).alloc (by simp; omega) _
  by_cases h1 : (b2 - ay) * (cx - ax) < (bx - ax) * (cy - ay)
  · rw [show turnI ax ay bx b2 cx cy = 1 from sgn_gt h1]
    go_enter Try.func50, Try.ntmps50
    go_wp2
    go_ret
    exact ⟨rfl, fin⟩
  · by_cases h2 : (bx - ax) * (cy - ay) < (b2 - ay) * (cx - ax)
    · rw [show turnI ax ay bx b2 cx cy = -1 from sgn_lt h2]
      go_enter Try.func50, Try.ntmps50
      go_wp2
      go_ret
      exact ⟨rfl, fin⟩
    · rw [show turnI ax ay bx b2 cx cy = 0 by unfold turnI; rw [show (bx - ax) * (cy - ay) = (b2 - ay) * (cx - ax) by omega]; exact sgn_eq _]
      go_enter Try.func50, Try.ntmps50
      go_wp2
      go_ret
      exact ⟨rfl, fin⟩
end Go.Proofs.Ytiggjaodfmelpaa.Pt
