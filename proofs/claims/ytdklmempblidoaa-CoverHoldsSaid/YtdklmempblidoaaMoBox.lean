/-
  Contracts of layer 4 (morton): below, span and Box. Memory that was there is left as it was.
-/
import Derived.Test.YtdklmempblidoaaMoSide
namespace Go.Proofs.Ytdklmempblidoaa.Mo
open Go.RowKit Go.Proofs.Ytdklmempblidoaa.Pt Go.Proofs.Ytdklmempblidoaa.Rc

theorem below_any (n m : Int) (w : World) : Calls Try.prog 38 #[.int .i64 n, .int .i64 m] w fun e w' => e = .returned (.bool (belB n m)) ∧ w = w' := by
  go_enter Try.func38, Try.ntmps38
  go_wp2
  all_goals (go_ret; exact ⟨by simp [belB, *] <;> omega, rfl⟩)

theorem run_mnM (P : Program) (ts : Array TypeId) (t : TypeId) (x y : Int) (W : World) : (Builtin.min_ ts t #[.int .i64 x, .int .i64 y]).run P W = .ok (.int .i64 (mn x y)) W := run_min_int2 W ts t .i64 .i64 x y

theorem span_any (k : Nat) (n : Int) (w : World) (h1 : 24 ≤ k) (h2 : k ≤ 31) (hn : belB n (sideI k) = true) : Calls Try.prog 39 #[.int .i64 k, .int .i64 n] w fun e w' => e = .returned (.tuple #[.int .i64 (firI k n), .int .i64 (lasI k n)]) ∧ w = w' := by
  obtain ⟨n1, n2⟩ := belB_iff.1 hn
  obtain ⟨m1, m2⟩ := col_bd h2 n1 n2
  have hmn := run_mnM Try.prog
  unfold firI lasI
  unfold firI
  clear hn n1 n2
  rcases (show k = 24 ∨ k = 25 ∨ k = 26 ∨ k = 27 ∨ k = 28 ∨ k = 29 ∨ k = 30 ∨ k = 31 by omega) with rfl | rfl | rfl | rfl | rfl | rfl | rfl | rfl
  all_goals
    simp only [Int.reducePow] at m1 m2 ⊢
    go_enter Try.func39, Try.ntmps39
    go_wp2
    refine bodyPost_ret (by simp [results, Try.results39, go_sem]; rfl) rfl ⟨?_, rfl⟩
    first | rfl | rw [Int.sub_add_cancel]

theorem box_no (s c r : Int) (w : World) (h : (belB c (sdI s) && belB r (sdI s)) = false) : Calls Try.prog 21 #[.int .i64 s, .int .i64 c, .int .i64 r] w fun e w' => e = .returned (.tuple #[.agg #[.int .i64 0, .int .i64 0, .int .i64 0, .int .i64 0], .iface 34 (.int .i64 1)]) ∧ Below w.heap.size w w' := by
  cases h1 : belB c (sdI s)
  · go_enter Try.func21, Try.ntmps21
    go_wp2_with (first | (go_at_call 37; refine (side_any _ _).mono ?_; rintro e w' ⟨rfl, rfl⟩) | (go_at_call 38; refine (below_any _ _ _).mono ?_; rintro e w' ⟨rfl, rfl⟩))
    exact bodyPost_ret (v := .tuple #[.agg #[.int .i64 0, .int .i64 0, .int .i64 0, .int .i64 0], .iface 34 (.int .i64 1)]) (by simp [results, Try.results21, go_sem]) rfl ⟨rfl, (Below.refl _ _).alloc (Nat.le_refl _) _⟩
  · rw [h1, Bool.true_and] at h
    go_enter Try.func21, Try.ntmps21
    go_wp2_with (first | (go_at_call 37; refine (side_any _ _).mono ?_; rintro e w' ⟨rfl, rfl⟩) | (go_at_call 38; refine (below_any _ _ _).mono ?_; rintro e w' ⟨rfl, rfl⟩))
    exact bodyPost_ret (v := .tuple #[.agg #[.int .i64 0, .int .i64 0, .int .i64 0, .int .i64 0], .iface 34 (.int .i64 1)]) (by simp [results, Try.results21, go_sem]) rfl ⟨rfl, (Below.refl _ _).alloc (Nat.le_refl _) _⟩

theorem box_yes (k : Nat) (c r : Int) (w : World) (h1 : 24 ≤ k) (h2 : k ≤ 31) (hc : belB c (sideI k) = true) (hr : belB r (sideI k) = true) : Calls Try.prog 21 #[.int .i64 k, .int .i64 c, .int .i64 r] w fun e w' => e = .returned (.tuple #[.agg #[.int .i64 (firI k c), .int .i64 (firI k r), .int .i64 (lasI k c), .int .i64 (lasI k r)], .nilIface]) ∧ Below w.heap.size w w' := by
  have hs := sdI_yes h1 h2
  go_enter Try.func21, Try.ntmps21
  go_wp2_with (first | (go_at_call 37; refine (side_any _ _).mono ?_; rintro e w' ⟨rfl, rfl⟩) | (go_at_call 38; refine (below_any _ _ _).mono ?_; rintro e w' ⟨rfl, rfl⟩) | (go_at_call 39; refine (span_any k _ _ h1 h2 (by assumption)).mono ?_; rintro e w' ⟨rfl, rfl⟩))
  exact bodyPost_ret (v := .tuple #[.agg #[.int .i64 (firI k c), .int .i64 (firI k r), .int .i64 (lasI k c), .int .i64 (lasI k r)], .nilIface]) (by simp [results, Try.results21, go_sem]) rfl ⟨rfl, (Below.refl _ _).alloc (Nat.le_refl _) _⟩
end Go.Proofs.Ytdklmempblidoaa.Mo
