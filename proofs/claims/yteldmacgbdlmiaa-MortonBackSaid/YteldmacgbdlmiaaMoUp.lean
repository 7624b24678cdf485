/-
  The head of layer 4's statements ('up', the document's example) returns true. Memory is left as it was.
-/
import Derived.Test.YteldmacgbdlmiaaMoSplit
import Derived.Test.YteldmacgbdlmiaaMoSide
import Derived.LaidEql
import Derived.KernelRfl
namespace Go.Proofs.Yteldmacgbdlmiaa.Mo
open Go.RowKit

theorem eql_arg (w : World) : (binOp .eql 27 (.iface 35 (.int .i64 1)) (.iface 35 (.int .i64 1))).run Try.prog w = .ok (.bool true) w := by kernel_rfl
theorem neq_arg (w : World) : (binOp .neq 27 (.iface 35 (.int .i64 1)) (.iface 35 (.int .i64 1))).run Try.prog w = .ok (.bool false) w := by kernel_rfl
theorem neq_range (w : World) : (binOp .neq 27 (.iface 35 (.int .i64 11)) (.iface 35 (.int .i64 11))).run Try.prog w = .ok (.bool false) w := by kernel_rfl
theorem neq_arg_nil (w : World) : (binOp .neq 27 (.iface 35 (.int .i64 1)) .nilIface).run Try.prog w = .ok (.bool true) w := by kernel_rfl
theorem neq_range_nil (w : World) : (binOp .neq 27 (.iface 35 (.int .i64 11)) .nilIface).run Try.prog w = .ok (.bool true) w := by kernel_rfl
theorem eql_nil_nil (w : World) : (binOp .eql 27 .nilIface .nilIface).run Try.prog w = .ok (.bool true) w := by kernel_rfl
theorem neq_nil_nil (w : World) : (binOp .neq 27 .nilIface .nilIface).run Try.prog w = .ok (.bool false) w := by kernel_rfl
theorem up_any (w : World) : Calls Try.prog 6 #[] w fun e w' => e = .returned (.bool true) ∧ w = w' := by
  have C1 := code_yes 3 1
  rw [show codeF 31 3 1 = 7 by decide] at C1
  have C2 := split_any 7 (by decide)
  rw [show evenF 31 7 = 3 by decide, show oddF 31 7 = 1 by decide] at C2
  have C3 := side_any 30
  rw [show sdI 30 = 3 by decide] at C3
  have q := eql_arg
  go_enter Try.func6, Try.ntmps6
  go_wp2_with fail
  refine (C1 _ (by decide) (by decide)).mono ?_
  rintro e w1 ⟨rfl, rfl⟩
  go_wp2_with fail
  refine (code_no _ _ _ (by decide)).mono ?_
  rintro e w1 ⟨rfl, rfl⟩
  go_wp2_with fail
  refine (C2 _).mono ?_
  rintro e w1 ⟨rfl, rfl⟩
  go_wp2_with fail
  refine (C3 _).mono ?_
  rintro e w1 ⟨rfl, rfl⟩
  go_wp2_with fail
  go_ret
  exact ⟨rfl, rfl⟩
end Go.Proofs.Yteldmacgbdlmiaa.Mo
