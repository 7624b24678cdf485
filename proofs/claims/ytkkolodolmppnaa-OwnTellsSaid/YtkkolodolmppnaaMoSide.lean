/-
  Contracts of layer 4 (morton): may and Side. Memory is left as it was.
-/
import Derived.Test.YtkkolodolmppnaaProg
import Derived.Test.YtkkolodolmppnaaMoCellP
import Derived.WalkKit
import Derived.WalkSpells
import Derived.RowKit3
import Derived.Below
import Derived.Lib.Hide
namespace Go.Proofs.Ytkkolodolmppnaa.Mo
open Go.RowKit Go.Proofs.Ytkkolodolmppnaa.Pt

theorem may_any (s : Int) (w : World) : Calls Try.prog 26 #[.int .i64 s] w fun e w' => e = .returned (.bool (shB s)) ∧ w = w' := by
  go_enter Try.func26, Try.ntmps26
  go_wp2
  all_goals (go_ret; exact ⟨by simp [shB, *] <;> omega, rfl⟩)

theorem side_any (s : Int) (w : World) : Calls Try.prog 25 #[.int .i64 s] w fun e w' => e = .returned (.int .i64 (sdI s)) ∧ w = w' := by
  cases h : shB s
  · rw [sdI_no h]
    go_enter Try.func25, Try.ntmps25
    go_wp2_with (go_at_call 26; refine (may_any _ _).mono ?_; rintro e w' ⟨rfl, rfl⟩)
    go_ret
    exact ⟨rfl, rfl⟩
  · obtain ⟨k, rfl, h1, h2⟩ := shB_nat h
    rcases (show k = 24 ∨ k = 25 ∨ k = 26 ∨ k = 27 ∨ k = 28 ∨ k = 29 ∨ k = 30 ∨ k = 31 by omega) with rfl | rfl | rfl | rfl | rfl | rfl | rfl | rfl
    all_goals
      go_enter Try.func25, Try.ntmps25
      go_wp2_with (go_at_call 26; refine (may_any _ _).mono ?_; rintro e w' ⟨rfl, rfl⟩)
      go_ret
      exact ⟨rfl, rfl⟩
end Go.Proofs.Ytkkolodolmppnaa.Mo
