/-
  Contracts of In and single of layer 2 (rect). Memory that was there is left as it was.
-/
import Derived.Test.YtiggjaodfmelpaaPtMay
import Derived.Test.YtiggjaodfmelpaaRcSubA
import Derived.Outline
namespace Go.Proofs.Ytiggjaodfmelpaa.Rc
open Go.RowKit Go.Proofs.Ytiggjaodfmelpaa.Pt

theorem in_any (x1 y1 x2 y2 px py : Int) (w : World) : Calls Try.prog 30 #[.agg #[.int .i64 x1, .int .i64 y1, .int .i64 x2, .int .i64 y2], .agg #[.int .i64 px, .int .i64 py]] w fun e w' => e = .returned (.bool (inB x1 y1 x2 y2 px py)) ∧ Below w.heap.size w w' := by
  go_enter Try.func30, Try.ntmps30
  go_wp2
  all_goals (go_ret; exact ⟨by simp [inB, *] <;> omega, ((Below.refl _ _).alloc (Nat.le_refl _) _).alloc (by simp) _⟩)

theorem single_any (x y : Int) (w : World) : Calls Try.prog 39 #[.agg #[.int .i64 x, .int .i64 y]] w fun e w' => e = .returned (.agg #[.int .i64 x, .int .i64 y, .int .i64 x, .int .i64 y]) ∧ Below w.heap.size w w' := by
  go_enter Try.func39, Try.ntmps39
  go_wp2
  refine bodyPost_ret (v := .agg #[.int .i64 x, .int .i64 y, .int .i64 x, .int .i64 y]) (by simp [results, Try.results39, go_sem]) rfl ⟨rfl, ?_⟩
  exact ((Below.refl _ _).alloc (Nat.le_refl _) _).alloc (by simp) _

end Go.Proofs.Ytiggjaodfmelpaa.Rc
