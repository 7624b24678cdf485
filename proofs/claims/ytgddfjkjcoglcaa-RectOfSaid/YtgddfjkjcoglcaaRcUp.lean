/-
  The head of layer 2's statements ('up', the document's example) returns true. Memory that was there is left as it was.
-/
import Derived.Test.YtgddfjkjcoglcaaRcMeet
namespace Go.Proofs.Ytgddfjkjcoglcaa.Rc
open Go.RowKit Go.Proofs.Ytgddfjkjcoglcaa.Pt

theorem meet_up (w : World) : Calls Try.prog 10 #[.agg #[.int .i64 0, .int .i64 0, .int .i64 2, .int .i64 2], .agg #[.int .i64 1, .int .i64 1, .int .i64 3, .int .i64 3]] w fun e w' => e = .returned (.tuple #[.agg #[.int .i64 1, .int .i64 1, .int .i64 2, .int .i64 2], .bool true]) ∧ Below w.heap.size w w' :=
  meet_yes 0 0 2 2 1 1 3 3 w (by decide)

set_option maxHeartbeats 400000 in
theorem up_any (w : World) : Calls Try.prog 6 #[] w fun e w' => e = .returned (.bool true) ∧ Below w.heap.size w w' := by
  have m1 : rmayB 1 1 2 2 = true := by decide
  have m2 : rmayB 1 0 0 0 = false := by decide
  go_enter Try.func6, Try.ntmps6
  go_wp2_with fail
  refine (meet_up _).mono ?_
  rintro e w1 ⟨rfl, hb1⟩
  have K1 := Kp.adq0 ⟨hb1.size, hb1⟩ w1.heap.size rfl (.int .i64 1) (.int .i64 1) (.int .i64 2) (.int .i64 2) 23
  go_wp2_with fail
  refine (rmay_any _ _ _ _ _).mono ?_
  rintro e w2 ⟨rfl, hb2⟩
  have K2 := Kp.keep4 hb2 K1; clear hb2
  go_wp2_with fail
  refine (rmay_any _ _ _ _ _).mono ?_
  rintro e w3 ⟨rfl, hb3⟩
  have K3 := Kp.keep4 hb3 K2; clear hb3
  go_wp2_with fail
  go_ret
  exact ⟨rfl, Kp.end4 K3⟩
end Go.Proofs.Ytgddfjkjcoglcaa.Rc
