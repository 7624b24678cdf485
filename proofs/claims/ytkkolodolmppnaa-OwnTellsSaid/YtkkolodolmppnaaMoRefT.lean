/-
  Contracts of the document's answers Shift for layer 4. Memory is left as it was.
-/
import Derived.Test.YtkkolodolmppnaaMoRef
namespace Go.Proofs.Ytkkolodolmppnaa.Mo
open Go.RowKit Go.Proofs.Ytkkolodolmppnaa.Pt Go.Proofs.Ytkkolodolmppnaa.Rc

theorem refShift_any (s : Int) (w : World) : Calls Try.prog 6 #[.int .i64 s] w fun e w' => e = .returned (.bool (shB s)) ∧ w = w' := by
  go_enter Try.func6, Try.ntmps6
  go_wp2
  all_goals (go_ret; exact ⟨by simp [shB, *] <;> omega, rfl⟩)

end Go.Proofs.Ytkkolodolmppnaa.Mo
