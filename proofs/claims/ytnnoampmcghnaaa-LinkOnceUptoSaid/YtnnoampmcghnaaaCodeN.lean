/-
  The contract of Code of the statements' own package, at no error and at any of the twelve: its number. Memory is left as it was.
-/
import Derived.Test.YtnnoampmcghnaaaProg
import Derived.WalkKit
import Derived.WalkSpells
import Derived.LaidEql
import Derived.KernelRfl
import Derived.Below
import Derived.Handy
namespace Go.Proofs.Ytnnoampmcghnaaa.Cn
open Go.RowKit
set_option linter.unusedVariables false

theorem nil_nil (w : World) : (binOp .eql 26 .nilIface .nilIface).run Try.prog w = .ok (.bool true) w := by kernel_rfl
theorem nil_no (n : Int) (w : World) : (binOp .eql 26 (.iface 31 (.int .i64 n)) .nilIface).run Try.prog w = .ok (.bool false) w := by kernel_rfl
theorem eql_codes (n j : Int) (w : World) : (binOp .eql 26 (.iface 31 (.int .i64 n)) (.iface 31 (.int .i64 j))).run Try.prog w = .ok (.bool (n == j)) w := by kernel_rfl
def CodeR (n : Nat) (w : World) (i : Value) (wr : World) : Prop := ∃ j : Nat, 1 ≤ j ∧ j ≤ n ∧ i = .int .i64 j ∧ w = wr
end Go.Proofs.Ytnnoampmcghnaaa.Cn
