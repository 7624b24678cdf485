/-
  Contracts of the document's answers Shift and Side for layer 4. Memory is left as it was.
-/
import Derived.Test.YtkkolodolmppnaaMoRefT
import Derived.Test.YtkkolodolmppnaaMoRef
namespace Go.Proofs.Ytkkolodolmppnaa.Mo
open Go.RowKit Go.Proofs.Ytkkolodolmppnaa.Pt Go.Proofs.Ytkkolodolmppnaa.Rc

theorem refSide_any (k : Nat) (w : World) (h1 : 24 ≤ k) (h2 : k ≤ 31) : Calls Try.prog 34 #[.int .i64 k] w fun e w' => e = .returned (.int .i64 (sideI k)) ∧ w = w' := by
  have C := two_any (31 - k) w (by omega)
  obtain ⟨b1, b2⟩ := sideI_bd h1 h2
  unfold sideI at b1 b2 ⊢
  obtain ⟨t, ht⟩ : ∃ t, t = (2 : Int) ^ (31 - k) := ⟨_, rfl⟩
  rw [← ht] at b1 b2 C ⊢
  rw [show ((31 - k : Nat) : Int) = 31 - (k : Int) by omega] at C
  clear ht
  go_enter Try.func34, Try.ntmps34
  go_wp2_with fail
  refine C.mono ?_
  rintro e w1 ⟨rfl, rfl⟩
  go_wp2_with fail
  go_ret
  exact ⟨rfl, rfl⟩
end Go.Proofs.Ytkkolodolmppnaa.Mo
