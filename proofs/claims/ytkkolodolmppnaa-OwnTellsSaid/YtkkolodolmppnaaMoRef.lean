/-
  Contracts of the document's answers for layer 4: two, Cell, less and Box. Memory that was there is left as it was.
-/
import Derived.Test.YtkkolodolmppnaaProg
import Derived.Test.YtkkolodolmppnaaMoCellP
import Derived.WalkKit
import Derived.WalkSpells
import Derived.RowKit3
import Derived.Below
import Derived.Lib.Hide
namespace Go.Proofs.Ytkkolodolmppnaa.Mo
open Go.RowKit Go.Proofs.Ytkkolodolmppnaa.Pt Go.Proofs.Ytkkolodolmppnaa.Rc

def TwoRel (w : World) (k : Nat) (p i : Value) (wr : World) : Prop := ∃ j : Nat, j ≤ k ∧ p = .int .i64 ((2 : Int) ^ j) ∧ i = .int .i64 j ∧ w = wr
theorem two_any (k : Nat) (w : World) (hk : k ≤ 31) : Calls Try.prog 35 #[.int .i64 k] w fun e w' => e = .returned (.int .i64 ((2 : Int) ^ k)) ∧ w = w' := by
  go_enter Try.func35, Try.ntmps35
  go_wp2_with fail
  go_loopw [3, 4] (fun p i wr => TwoRel w k p i wr) (fun _ i _ => k - (intOf i).toNat)
  case atStart => exact ⟨0, Nat.zero_le _, rfl, rfl, rfl⟩
  case round =>
    obtain ⟨j, hj, rfl, rfl, rfl⟩ := hrel
    have hp : (2 : Int) ^ j ≤ 2147483648 := by
      have : (2 : Nat) ^ j ≤ 2 ^ 31 := Nat.pow_le_pow_right (by decide) (by omega)
      have h2 : ((2 ^ j : Nat) : Int) = (2 : Int) ^ j := by simp
      omega
    have hq := two_pos j
    have hn : (2 : Int) ^ (j + 1) = 2 * 2 ^ j := by rw [Int.pow_succ, Int.mul_comm]
    obtain ⟨t, ht⟩ : ∃ t, t = (2 : Int) ^ j := ⟨_, rfl⟩
    rw [← ht] at hp hq hn ⊢
    by_cases hlt : j < k
    · have T := Lib.hid ht
      have HN := Lib.hid hn
      clear ht hn
      go_wp2_with fail
      go_roundw
      case rel => exact ⟨j + 1, by omega, by rw [HN.out], by go_num, rfl⟩
      case measure => simp [intOf]; omega
    · obtain rfl : j = k := by omega
      have T := Lib.hid ht
      clear ht hn
      go_wp2_with fail
      go_ret
      exact ⟨by rw [← T.out]; rfl, rfl⟩

theorem refCell_any (k : Nat) (n : Int) (w : World) (h1 : 24 ≤ k) (h2 : k ≤ 31) (hn : inR n = true) : Calls Try.prog 23 #[.int .i64 k, .int .i64 n] w fun e w' => e = .returned (.int .i64 (colI k n)) ∧ w = w' := by
  obtain ⟨n1, n2⟩ := inR_iff.1 hn
  obtain ⟨p1, p2⟩ := pow_bd h1 h2
  have C := two_any k
  unfold colI
  obtain ⟨t, ht⟩ : ∃ t, t = (2 : Int) ^ k := ⟨_, rfl⟩
  rw [← ht] at p1 p2 C ⊢
  clear ht hn
  have q := Int.ediv_nonneg (a := n + 1073741824) (b := t) (by omega) (by omega)
  have q2 := Int.ediv_le_self (a := n + 1073741824) t (by omega)
  have e : Int.tdiv (n + 1073741824) t = (n + 1073741824) / t := Int.tdiv_eq_ediv_of_nonneg (by omega)
  have hz : ¬ t = 0 := by omega
  go_enter Try.func23, Try.ntmps23
  go_wp2_with fail
  refine (C _ h2).mono ?_
  rintro e w1 ⟨rfl, rfl⟩
  go_wp2_with fail
  go_ret
  exact ⟨rfl, rfl⟩

end Go.Proofs.Ytkkolodolmppnaa.Mo
