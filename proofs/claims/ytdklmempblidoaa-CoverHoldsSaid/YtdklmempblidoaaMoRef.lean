/-
  Contracts of the document's answers for layer 4: two, Cell, less and Box. Memory that was there is left as it was.
-/
import Derived.Test.YtdklmempblidoaaProg
import Derived.Test.YtdklmempblidoaaMoCellP
import Derived.WalkKit
import Derived.WalkSpells
import Derived.RowKit3
import Derived.Below
import Derived.Lib.Hide
namespace Go.Proofs.Ytdklmempblidoaa.Mo
open Go.RowKit Go.Proofs.Ytdklmempblidoaa.Pt Go.Proofs.Ytdklmempblidoaa.Rc

theorem less_any (a b : Int) (w : World) : Calls Try.prog 41 #[.int .i64 a, .int .i64 b] w fun e w' => e = .returned (.int .i64 (mn a b)) ∧ w = w' := by
  go_enter Try.func41, Try.ntmps41
  go_wp2
  all_goals (go_ret; exact ⟨by simp [mn, *] <;> omega, rfl⟩)

def TwoRel (w : World) (k : Nat) (p i : Value) (wr : World) : Prop := ∃ j : Nat, j ≤ k ∧ p = .int .i64 ((2 : Int) ^ j) ∧ i = .int .i64 j ∧ w = wr
theorem two_any (k : Nat) (w : World) (hk : k ≤ 31) : Calls Try.prog 40 #[.int .i64 k] w fun e w' => e = .returned (.int .i64 ((2 : Int) ^ k)) ∧ w = w' := by
  go_enter Try.func40, Try.ntmps40
  go_wp2_with fail
  go_loopw [3, 4] (fun p i wr => TwoRel w k p i wr) (fun _ i _ => k - (intOf i).toNat)
  case atStart => exact ⟨0, Nat.zero_le _, rfl, rfl, rfl⟩
  case round =>
    obtain ⟨j, hj, rfl, rfl, rfl⟩ := hrel
    have hp : (2 : Int) ^ j ≤ 2147483648 := by
      have : (2 : Nat) ^ j ≤ 2 ^ 31 := Nat.pow_le_pow_right (by decide) (by omega)
      have h2 : ((2 ^ j : Nat) : Int) = (2 : Int) ^ j := by simp
      omega
    have hq := two_pos j
    have hn : (2 : Int) ^ (j + 1) = 2 * 2 ^ j := by rw [Int.pow_succ, Int.mul_comm]
    obtain ⟨t, ht⟩ : ∃ t, t = (2 : Int) ^ j := ⟨_, rfl⟩
    rw [← ht] at hp hq hn ⊢
    by_cases hlt : j < k
    · have T := Lib.hid ht
      have HN := Lib.hid hn
      clear ht hn
      go_wp2_with fail
      go_roundw
      case rel => exact ⟨j + 1, by omega, by rw [HN.out], by go_num, rfl⟩
      case measure => simp [intOf]; omega
    · obtain rfl : j = k := by omega
      have T := Lib.hid ht
      clear ht hn
      go_wp2_with fail
      go_ret
      exact ⟨by rw [← T.out]; rfl, rfl⟩

theorem refCell_any (k : Nat) (n : Int) (w : World) (h1 : 24 ≤ k) (h2 : k ≤ 31) (hn : inR n = true) : Calls Try.prog 23 #[.int .i64 k, .int .i64 n] w fun e w' => e = .returned (.int .i64 (colI k n)) ∧ w = w' := by
  obtain ⟨n1, n2⟩ := inR_iff.1 hn
  obtain ⟨p1, p2⟩ := pow_bd h1 h2
  have C := two_any k
  unfold colI
  obtain ⟨t, ht⟩ : ∃ t, t = (2 : Int) ^ k := ⟨_, rfl⟩
  rw [← ht] at p1 p2 C ⊢
  clear ht hn
  have q := Int.ediv_nonneg (a := n + 1073741824) (b := t) (by omega) (by omega)
  have q2 := Int.ediv_le_self (a := n + 1073741824) t (by omega)
  have e : Int.tdiv (n + 1073741824) t = (n + 1073741824) / t := Int.tdiv_eq_ediv_of_nonneg (by omega)
  have hz : ¬ t = 0 := by omega
  go_enter Try.func23, Try.ntmps23
  go_wp2_with fail
  refine (C _ h2).mono ?_
  rintro e w1 ⟨rfl, rfl⟩
  go_wp2_with fail
  go_ret
  exact ⟨rfl, rfl⟩

theorem refBox_any (k : Nat) (c r : Int) (w : World) (h1 : 24 ≤ k) (h2 : k ≤ 31) (hc : belB c (sideI k) = true) (hr : belB r (sideI k) = true) : Calls Try.prog 27 #[.int .i64 k, .int .i64 c, .int .i64 r] w fun e w' => e = .returned (.agg #[.int .i64 (firI k c), .int .i64 (firI k r), .int .i64 (lasI k c), .int .i64 (lasI k r)]) ∧ Below w.heap.size w w' := by
  obtain ⟨n1, n2⟩ := belB_iff.1 hc
  obtain ⟨m1, m2⟩ := col_bd h2 n1 n2
  obtain ⟨n3, n4⟩ := belB_iff.1 hr
  obtain ⟨m3, m4⟩ := col_bd h2 n3 n4
  obtain ⟨p1, p2⟩ := pow_bd h1 h2
  have C := two_any k
  unfold lasI firI
  clear n1 n2 n3 n4 hc hr
  obtain ⟨t, ht⟩ : ∃ t, t = (2 : Int) ^ k := ⟨_, rfl⟩
  rw [← ht] at p1 p2 m1 m2 m3 m4 C ⊢
  clear ht
  obtain ⟨u, hu⟩ : ∃ u, c * t = u := ⟨_, rfl⟩
  obtain ⟨v, hv⟩ : ∃ v, r * t = v := ⟨_, rfl⟩
  rw [hu] at m1 m2 ⊢
  rw [hv] at m3 m4 ⊢
  go_enter Try.func27, Try.ntmps27
  go_wp2_with (first | (go_at_call 40; refine (C _ h2).mono ?_; rintro e w' ⟨rfl, rfl⟩) | (go_at_call 41; refine (less_any _ _ _).mono ?_; rintro e w' ⟨rfl, rfl⟩))
  exact bodyPost_ret (v := .agg #[.int .i64 (u - 1073741824), .int .i64 (v - 1073741824), .int .i64 (mn (u - 1073741824 + t - 1) 1073741824), .int .i64 (mn (v - 1073741824 + t - 1) 1073741824)]) (by simp [results, Try.results27, go_sem]) rfl ⟨rfl, (Below.refl _ _).alloc (Nat.le_refl _) _⟩
end Go.Proofs.Ytdklmempblidoaa.Mo
