/-
  Contracts of the small functions of layer 1 (point) and of their document's answers: what each returns for any integers; memory is left as it was.
-/
import Derived.Test.YtiggjaodfmelpaaProg
import Derived.Test.YtiggjaodfmelpaaPtMay
import Derived.WalkKit
import Derived.WalkSpells
namespace Go.Proofs.Ytiggjaodfmelpaa.Pt
open Go.RowKit

theorem isNaN_any (n : Int) (w : World) : Calls Try.prog 68 #[.int .i64 n] w fun e w' => e = .returned (.bool false) ∧ w = w' := by
  go_enter Try.func68, Try.ntmps68
  go_wp2
  go_ret
  exact ⟨by simp, rfl⟩

theorem compare_any (p q : Int) (w : World) : Calls Try.prog 66 #[.int .i64 p, .int .i64 q] w fun e w' => e = .returned (.int .i64 (sgn p q)) ∧ w = w' := by
  by_cases h1 : p < q
  · rw [sgn_lt h1]
    go_enter Try.func66, Try.ntmps66
    go_wp2_with (go_at_call 68; refine (isNaN_any _ _).mono ?_; rintro e w' ⟨rfl, rfl⟩)
    go_ret
    exact ⟨rfl, rfl⟩
  · by_cases h2 : q < p
    · rw [sgn_gt h2]
      go_enter Try.func66, Try.ntmps66
      go_wp2_with (go_at_call 68; refine (isNaN_any _ _).mono ?_; rintro e w' ⟨rfl, rfl⟩)
      go_ret
      exact ⟨rfl, rfl⟩
    · obtain rfl : p = q := by omega
      rw [sgn_eq]
      go_enter Try.func66, Try.ntmps66
      go_wp2_with (go_at_call 68; refine (isNaN_any _ _).mono ?_; rintro e w' ⟨rfl, rfl⟩)
      go_ret
      exact ⟨rfl, rfl⟩

theorem between_any (a b n : Int) (w : World) : Calls Try.prog 67 #[.int .i64 a, .int .i64 b, .int .i64 n] w fun e w' => e = .returned (.bool (btw a b n)) ∧ w = w' := by
  by_cases h1 : a ≤ n
  · by_cases h2 : n ≤ b
    · rw [show btw a b n = true from btw_iff.2 (by omega)]
      go_enter Try.func67, Try.ntmps67
      go_wp2
      go_ret
      exact ⟨rfl, rfl⟩
    · have h3 : b ≤ n := by omega
      by_cases h4 : n ≤ a
      · rw [show btw a b n = true from btw_iff.2 (by omega)]
        go_enter Try.func67, Try.ntmps67
        go_wp2
        go_ret
        exact ⟨rfl, rfl⟩
      · rw [show btw a b n = false from btw_no (by omega)]
        go_enter Try.func67, Try.ntmps67
        go_wp2
        go_ret
        exact ⟨rfl, rfl⟩
  · have h4 : n ≤ a := by omega
    by_cases h3 : b ≤ n
    · rw [show btw a b n = true from btw_iff.2 (by omega)]
      go_enter Try.func67, Try.ntmps67
      go_wp2
      go_ret
      exact ⟨rfl, rfl⟩
    · rw [show btw a b n = false from btw_no (by omega)]
      go_enter Try.func67, Try.ntmps67
      go_wp2
      go_ret
      exact ⟨rfl, rfl⟩

theorem within_any (a b n : Int) (w : World) : Calls Try.prog 54 #[.int .i64 a, .int .i64 b, .int .i64 n] w fun e w' => e = .returned (.bool (btw a b n)) ∧ w = w' := by
  by_cases h1 : a ≤ n
  · by_cases h2 : n ≤ b
    · rw [show btw a b n = true from btw_iff.2 (by omega)]
      go_enter Try.func54, Try.ntmps54
      go_wp2
      go_ret
      exact ⟨rfl, rfl⟩
    · have h3 : b ≤ n := by omega
      by_cases h4 : n ≤ a
      · rw [show btw a b n = true from btw_iff.2 (by omega)]
        go_enter Try.func54, Try.ntmps54
        go_wp2
        go_ret
        exact ⟨rfl, rfl⟩
      · rw [show btw a b n = false from btw_no (by omega)]
        go_enter Try.func54, Try.ntmps54
        go_wp2
        go_ret
        exact ⟨rfl, rfl⟩
  · have h4 : n ≤ a := by omega
    by_cases h3 : b ≤ n
    · rw [show btw a b n = true from btw_iff.2 (by omega)]
      go_enter Try.func54, Try.ntmps54
      go_wp2
      go_ret
      exact ⟨rfl, rfl⟩
    · rw [show btw a b n = false from btw_no (by omega)]
      go_enter Try.func54, Try.ntmps54
      go_wp2
      go_ret
      exact ⟨rfl, rfl⟩
end Go.Proofs.Ytiggjaodfmelpaa.Pt
