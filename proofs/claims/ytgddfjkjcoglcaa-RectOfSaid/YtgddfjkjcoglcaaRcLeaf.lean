/-
  Contracts of the small functions of layer 2 (rect) and of their document's answers. Memory that was there is left as it was.
-/
import Derived.Test.YtgddfjkjcoglcaaPtMay
import Derived.Test.YtgddfjkjcoglcaaRcPlain
import Derived.Outline
namespace Go.Proofs.Ytgddfjkjcoglcaa.Rc
open Go.RowKit Go.Proofs.Ytgddfjkjcoglcaa.Pt

theorem inOrder_any (x1 y1 x2 y2 : Int) (w : World) : Calls Try.prog 28 #[.agg #[.int .i64 x1, .int .i64 y1, .int .i64 x2, .int .i64 y2]] w fun e w' => e = .returned (.bool (ordB x1 y1 x2 y2)) ∧ Below w.heap.size w w' := by
  go_enter Try.func28, Try.ntmps28
  go_wp2
  all_goals (go_ret; exact ⟨by simp [ordB, *] <;> omega, (Below.refl _ _).alloc (Nat.le_refl _) _⟩)

theorem in_any (x1 y1 x2 y2 px py : Int) (w : World) : Calls Try.prog 14 #[.agg #[.int .i64 x1, .int .i64 y1, .int .i64 x2, .int .i64 y2], .agg #[.int .i64 px, .int .i64 py]] w fun e w' => e = .returned (.bool (inB x1 y1 x2 y2 px py)) ∧ Below w.heap.size w w' := by
  go_enter Try.func14, Try.ntmps14
  go_wp2
  all_goals (go_ret; exact ⟨by simp [inB, *] <;> omega, ((Below.refl _ _).alloc (Nat.le_refl _) _).alloc (by simp) _⟩)

theorem refIn_any (x1 y1 x2 y2 px py : Int) (w : World) : Calls Try.prog 15 #[.agg #[.int .i64 x1, .int .i64 y1, .int .i64 x2, .int .i64 y2], .agg #[.int .i64 px, .int .i64 py]] w fun e w' => e = .returned (.bool (inB x1 y1 x2 y2 px py)) ∧ Below w.heap.size w w' := by
  go_enter Try.func15, Try.ntmps15
  go_wp2
  all_goals (go_ret; exact ⟨by simp [inB, *] <;> omega, ((Below.refl _ _).alloc (Nat.le_refl _) _).alloc (by simp) _⟩)

theorem less_any (a b : Int) (w : World) : Calls Try.prog 30 #[.int .i64 a, .int .i64 b] w fun e w' => e = .returned (.int .i64 (mn a b)) ∧ w = w' := by
  go_enter Try.func30, Try.ntmps30
  go_wp2
  all_goals (go_ret; exact ⟨by simp [mn, *] <;> omega, rfl⟩)

theorem more_any (a b : Int) (w : World) (ha : inR a = true) (hb : inR b = true) : Calls Try.prog 29 #[.int .i64 a, .int .i64 b] w fun e w' => e = .returned (.int .i64 (mx a b)) ∧ w = w' := by
  have h1 := inR_iff.1 ha; have h2 := inR_iff.1 hb
  have h3 := mn_cases (-a) (-b)
  have h4 : -9223372036854775808 < mn (-a) (-b) ∧ mn (-a) (-b) < 9223372036854775808 := by omega
  rw [← mx_neg a b]
  obtain ⟨_, _⟩ := h1; obtain ⟨_, _⟩ := h2; obtain ⟨_, _⟩ := h4
  clear h3 ha hb
  go_enter Try.func29, Try.ntmps29
  go_wp2_with (go_at_call 30; refine (less_any _ _ _).mono ?_; rintro e w' ⟨rfl, rfl⟩)
  go_ret
  exact ⟨rfl, rfl⟩

theorem run_mn (P : Program) (ts : Array TypeId) (t : TypeId) (x y : Int) (W : World) : (Builtin.min_ ts t #[.int .i64 x, .int .i64 y]).run P W = .ok (.int .i64 (mn x y)) W := run_min_int2 W ts t .i64 .i64 x y
theorem run_mx (P : Program) (ts : Array TypeId) (t : TypeId) (x y : Int) (W : World) : (Builtin.max_ ts t #[.int .i64 x, .int .i64 y]).run P W = .ok (.int .i64 (mx x y)) W := run_max_int2 W ts t .i64 .i64 x y

theorem join_any (ax1 ay1 ax2 ay2 bx1 by1 bx2 by2 : Int) (w : World) : Calls Try.prog 13 #[.agg #[.int .i64 ax1, .int .i64 ay1, .int .i64 ax2, .int .i64 ay2], .agg #[.int .i64 bx1, .int .i64 by1, .int .i64 bx2, .int .i64 by2]] w fun e w' => e = .returned (.agg #[.int .i64 (mn ax1 bx1), .int .i64 (mn ay1 by1), .int .i64 (mx ax2 bx2), .int .i64 (mx ay2 by2)]) ∧ Below w.heap.size w w' := by
  have hn := run_mn Try.prog
  have hx := run_mx Try.prog
  go_enter Try.func13, Try.ntmps13
  go_wp2
  refine bodyPost_ret (v := .agg #[.int .i64 (mn ax1 bx1), .int .i64 (mn ay1 by1), .int .i64 (mx ax2 bx2), .int .i64 (mx ay2 by2)]) (by simp [results, Try.results13, go_sem]) rfl ⟨rfl, ?_⟩
  exact (((Below.refl _ _).alloc (Nat.le_refl _) _).alloc (by simp) _).alloc (by simp; omega) _

theorem low_any (x1 y1 x2 y2 : Int) (w : World) : Calls Try.prog 26 #[.agg #[.int .i64 x1, .int .i64 y1, .int .i64 x2, .int .i64 y2]] w fun e w' => e = .returned (.agg #[.int .i64 x1, .int .i64 y1]) ∧ Below w.heap.size w w' := by
  go_enter Try.func26, Try.ntmps26
  go_wp2
  refine bodyPost_ret (v := .agg #[.int .i64 x1, .int .i64 y1]) (by simp [results, Try.results26, go_sem]) rfl ⟨rfl, ?_⟩
  exact ((Below.refl _ _).alloc (Nat.le_refl _) _).alloc (by simp) _

theorem high_any (x1 y1 x2 y2 : Int) (w : World) : Calls Try.prog 27 #[.agg #[.int .i64 x1, .int .i64 y1, .int .i64 x2, .int .i64 y2]] w fun e w' => e = .returned (.agg #[.int .i64 x2, .int .i64 y2]) ∧ Below w.heap.size w w' := by
  go_enter Try.func27, Try.ntmps27
  go_wp2
  refine bodyPost_ret (v := .agg #[.int .i64 x2, .int .i64 y2]) (by simp [results, Try.results27, go_sem]) rfl ⟨rfl, ?_⟩
  exact ((Below.refl _ _).alloc (Nat.le_refl _) _).alloc (by simp) _

theorem single_any (x y : Int) (w : World) : Calls Try.prog 31 #[.agg #[.int .i64 x, .int .i64 y]] w fun e w' => e = .returned (.agg #[.int .i64 x, .int .i64 y, .int .i64 x, .int .i64 y]) ∧ Below w.heap.size w w' := by
  go_enter Try.func31, Try.ntmps31
  go_wp2
  refine bodyPost_ret (v := .agg #[.int .i64 x, .int .i64 y, .int .i64 x, .int .i64 y]) (by simp [results, Try.results31, go_sem]) rfl ⟨rfl, ?_⟩
  exact ((Below.refl _ _).alloc (Nat.le_refl _) _).alloc (by simp) _

theorem area_any (x1 y1 x2 y2 : Int) (w : World) (h : rmayB x1 y1 x2 y2 = true) : Calls Try.prog 18 #[.agg #[.int .i64 x1, .int .i64 y1, .int .i64 x2, .int .i64 y2]] w fun e w' => e = .returned (.int .i64 (areaI x1 y1 x2 y2)) ∧ Below w.heap.size w w' := by
  obtain ⟨_, _⟩ := areaI_bd h
  obtain ⟨_, _, _, _, _, _⟩ := rmayB_bd h
  clear h
  unfold areaI at *
  go_enter Try.func18, Try.ntmps18
  go_wp2
  go_ret
  exact ⟨rfl, (Below.refl _ _).alloc (Nat.le_refl _) _⟩

theorem refArea_any (x1 y1 x2 y2 : Int) (w : World) (h : rmayB x1 y1 x2 y2 = true) : Calls Try.prog 19 #[.agg #[.int .i64 x1, .int .i64 y1, .int .i64 x2, .int .i64 y2]] w fun e w' => e = .returned (.int .i64 (areaI x1 y1 x2 y2)) ∧ Below w.heap.size w w' := by
  obtain ⟨_, _⟩ := areaI_bd h
  obtain ⟨_, _, _, _, _, _⟩ := rmayB_bd h
  clear h
  unfold areaI at *
  go_enter Try.func19, Try.ntmps19
  go_wp2
  go_ret
  exact ⟨rfl, (Below.refl _ _).alloc (Nat.le_refl _) _⟩

theorem margin_any (x1 y1 x2 y2 : Int) (w : World) (h : rmayB x1 y1 x2 y2 = true) : Calls Try.prog 20 #[.agg #[.int .i64 x1, .int .i64 y1, .int .i64 x2, .int .i64 y2]] w fun e w' => e = .returned (.int .i64 (marginI x1 y1 x2 y2)) ∧ Below w.heap.size w w' := by
  obtain ⟨_, _, _, _, _, _⟩ := rmayB_bd h
  clear h
  rw [marginI_eq]
  go_enter Try.func20, Try.ntmps20
  go_wp2
  go_ret
  exact ⟨rfl, (Below.refl _ _).alloc (Nat.le_refl _) _⟩
end Go.Proofs.Ytgddfjkjcoglcaa.Rc
