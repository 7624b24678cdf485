/-
  Contracts of Join of layer 2 (rect), and of the document's answers In, less and more. Memory that was there is left as it was.
-/
import Derived.Test.YtkkolodolmppnaaPtMay
import Derived.Test.YtkkolodolmppnaaRcPlain
import Derived.Outline
namespace Go.Proofs.Ytkkolodolmppnaa.Rc
open Go.RowKit Go.Proofs.Ytkkolodolmppnaa.Pt

theorem refIn_any (x1 y1 x2 y2 px py : Int) (w : World) : Calls Try.prog 13 #[.agg #[.int .i64 x1, .int .i64 y1, .int .i64 x2, .int .i64 y2], .agg #[.int .i64 px, .int .i64 py]] w fun e w' => e = .returned (.bool (inB x1 y1 x2 y2 px py)) ∧ Below w.heap.size w w' := by
  go_enter Try.func13, Try.ntmps13
  go_wp2
  all_goals (go_ret; exact ⟨by simp [inB, *] <;> omega, ((Below.refl _ _).alloc (Nat.le_refl _) _).alloc (by simp) _⟩)

theorem run_mn (P : Program) (ts : Array TypeId) (t : TypeId) (x y : Int) (W : World) : (Builtin.min_ ts t #[.int .i64 x, .int .i64 y]).run P W = .ok (.int .i64 (mn x y)) W := run_min_int2 W ts t .i64 .i64 x y
theorem run_mx (P : Program) (ts : Array TypeId) (t : TypeId) (x y : Int) (W : World) : (Builtin.max_ ts t #[.int .i64 x, .int .i64 y]).run P W = .ok (.int .i64 (mx x y)) W := run_max_int2 W ts t .i64 .i64 x y

end Go.Proofs.Ytkkolodolmppnaa.Rc
