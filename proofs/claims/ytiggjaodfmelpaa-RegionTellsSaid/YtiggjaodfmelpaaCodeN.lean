/-
  The contract of Code of the statements' own package, at no error and at any of the twelve: its number. Memory is left as it was.
-/
import Derived.Test.YtiggjaodfmelpaaProg
import Derived.WalkKit
import Derived.WalkSpells
import Derived.LaidEql
import Derived.KernelRfl
import Derived.Below
import Derived.Handy
namespace Go.Proofs.Ytiggjaodfmelpaa.Cn
open Go.RowKit
set_option linter.unusedVariables false

theorem nil_nil (w : World) : (binOp .eql 32 .nilIface .nilIface).run Try.prog w = .ok (.bool true) w := by kernel_rfl
theorem nil_no (n : Int) (w : World) : (binOp .eql 32 (.iface 37 (.int .i64 n)) .nilIface).run Try.prog w = .ok (.bool false) w := by kernel_rfl
theorem eql_codes (n j : Int) (w : World) : (binOp .eql 32 (.iface 37 (.int .i64 n)) (.iface 37 (.int .i64 j))).run Try.prog w = .ok (.bool (n == j)) w := by kernel_rfl
theorem code_nil (w : World) : Calls Try.prog 18 #[.nilIface] w fun e w' => e = .returned (.int .i64 0) ∧ w = w' := by
  have h0 := nil_nil
  go_enter Try.func18, Try.ntmps18
  go_wp2_with fail
  go_ret
  exact ⟨rfl, rfl⟩
def CodeR (n : Nat) (w : World) (i : Value) (wr : World) : Prop := ∃ j : Nat, 1 ≤ j ∧ j ≤ n ∧ i = .int .i64 j ∧ w = wr
set_option maxHeartbeats 1000000 in
theorem code_any (n : Nat) (h1 : 1 ≤ n) (h2 : n ≤ 12) (w : World) : Calls Try.prog 18 #[.iface 37 (.int .i64 n)] w fun e w' => e = .returned (.int .i64 n) ∧ w = w' := by
  have q0 := nil_no n
  have q1 := eql_codes n
  go_enter Try.func18, Try.ntmps18
  go_wp2_with fail
  go_loopw [3] (fun i wr => CodeR n w i wr) (fun i _ => 20 - (intOf i).toNat)
  case atStart => exact ⟨1, by omega, by omega, rfl, rfl⟩
  case round =>
    obtain ⟨j, ha, hb, rfl, rfl⟩ := hrel
    have hle : (j : Int) ≤ 12 := by omega
    by_cases hj : j = n
    · subst hj
      have hjb : ((j : Int) == (j : Int)) = true := by simp
      go_wp2_with fail
      go_ret
      exact ⟨rfl, rfl⟩
    · have hjn : ((n : Int) == (j : Int)) = false := by rw [beq_eq_false_iff_ne]; omega
      go_wp2_with fail
      go_roundw
      case rel => exact ⟨j + 1, by omega, by omega, by go_num, rfl⟩
      case measure => simp [intOf]; omega
end Go.Proofs.Ytiggjaodfmelpaa.Cn
