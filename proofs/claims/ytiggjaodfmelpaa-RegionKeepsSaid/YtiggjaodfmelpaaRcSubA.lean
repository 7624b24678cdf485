/-
  Contracts of Join of layer 2 (rect), and of the document's answers In, less and more. Memory that was there is left as it was.
-/
import Derived.Test.YtiggjaodfmelpaaPtMay
import Derived.Test.YtiggjaodfmelpaaRcPlain
import Derived.Outline
namespace Go.Proofs.Ytiggjaodfmelpaa.Rc
open Go.RowKit Go.Proofs.Ytiggjaodfmelpaa.Pt

theorem refIn_any (x1 y1 x2 y2 px py : Int) (w : World) : Calls Try.prog 19 #[.agg #[.int .i64 x1, .int .i64 y1, .int .i64 x2, .int .i64 y2], .agg #[.int .i64 px, .int .i64 py]] w fun e w' => e = .returned (.bool (inB x1 y1 x2 y2 px py)) ∧ Below w.heap.size w w' := by
  go_enter Try.func19, Try.ntmps19
  go_wp2
  all_goals (go_ret; exact ⟨by simp [inB, *] <;> omega, ((Below.refl _ _).alloc (Nat.le_refl _) _).alloc (by simp) _⟩)

theorem less_any (a b : Int) (w : World) : Calls Try.prog 60 #[.int .i64 a, .int .i64 b] w fun e w' => e = .returned (.int .i64 (mn a b)) ∧ w = w' := by
  go_enter Try.func60, Try.ntmps60
  go_wp2
  all_goals (go_ret; exact ⟨by simp [mn, *] <;> omega, rfl⟩)

theorem more_any (a b : Int) (w : World) (ha : inR a = true) (hb : inR b = true) : Calls Try.prog 61 #[.int .i64 a, .int .i64 b] w fun e w' => e = .returned (.int .i64 (mx a b)) ∧ w = w' := by
  have h1 := inR_iff.1 ha; have h2 := inR_iff.1 hb
  have h3 := mn_cases (-a) (-b)
  have h4 : -9223372036854775808 < mn (-a) (-b) ∧ mn (-a) (-b) < 9223372036854775808 := by omega
  rw [← mx_neg a b]
  obtain ⟨_, _⟩ := h1; obtain ⟨_, _⟩ := h2; obtain ⟨_, _⟩ := h4
  clear h3 ha hb
  go_enter Try.func61, Try.ntmps61
  go_wp2_with (go_at_call 60; refine (less_any _ _ _).mono ?_; rintro e w' ⟨rfl, rfl⟩)
  go_ret
  exact ⟨rfl, rfl⟩

theorem run_mn (P : Program) (ts : Array TypeId) (t : TypeId) (x y : Int) (W : World) : (Builtin.min_ ts t #[.int .i64 x, .int .i64 y]).run P W = .ok (.int .i64 (mn x y)) W := run_min_int2 W ts t .i64 .i64 x y
theorem run_mx (P : Program) (ts : Array TypeId) (t : TypeId) (x y : Int) (W : World) : (Builtin.max_ ts t #[.int .i64 x, .int .i64 y]).run P W = .ok (.int .i64 (mx x y)) W := run_max_int2 W ts t .i64 .i64 x y

theorem join_any (ax1 ay1 ax2 ay2 bx1 by1 bx2 by2 : Int) (w : World) : Calls Try.prog 40 #[.agg #[.int .i64 ax1, .int .i64 ay1, .int .i64 ax2, .int .i64 ay2], .agg #[.int .i64 bx1, .int .i64 by1, .int .i64 bx2, .int .i64 by2]] w fun e w' => e = .returned (.agg #[.int .i64 (mn ax1 bx1), .int .i64 (mn ay1 by1), .int .i64 (mx ax2 bx2), .int .i64 (mx ay2 by2)]) ∧ Below w.heap.size w w' := by
  have hn := run_mn Try.prog
  have hx := run_mx Try.prog
  go_enter Try.func40, Try.ntmps40
  go_wp2
  refine bodyPost_ret (v := .agg #[.int .i64 (mn ax1 bx1), .int .i64 (mn ay1 by1), .int .i64 (mx ax2 bx2), .int .i64 (mx ay2 by2)]) (by simp [results, Try.results40, go_sem]) rfl ⟨rfl, ?_⟩
  exact (((Below.refl _ _).alloc (Nat.le_refl _) _).alloc (by simp) _).alloc (by simp; omega) _
end Go.Proofs.Ytiggjaodfmelpaa.Rc
