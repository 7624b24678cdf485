/-
  The head of layer 1's statements ('up', the document's example) returns true. Memory that was there is left as it was.
-/
import Derived.Test.YtjdeoneefgoaaaaPtAdd
import Derived.LaidEql
import Derived.KernelRfl
namespace Go.Proofs.Ytjdeoneefgoaaaa.Pt
open Go.RowKit

/-- ErrRange is ErrRange. -/
theorem eql_range (w : World) : (binOp .eql 30 (.iface 33 (.int .i64 11)) (.iface 33 (.int .i64 11))).run Try.prog w = .ok (.bool true) w := by kernel_rfl
/-- ErrRange is not nil; nil is nil. -/
theorem eql_range_nil (w : World) : (binOp .eql 30 (.iface 33 (.int .i64 11)) .nilIface).run Try.prog w = .ok (.bool false) w := by kernel_rfl
theorem neq_range_nil (w : World) : (binOp .neq 30 (.iface 33 (.int .i64 11)) .nilIface).run Try.prog w = .ok (.bool true) w := by kernel_rfl
theorem eql_nil_nil (w : World) : (binOp .eql 30 .nilIface .nilIface).run Try.prog w = .ok (.bool true) w := by kernel_rfl
theorem neq_nil_nil (w : World) : (binOp .neq 30 .nilIface .nilIface).run Try.prog w = .ok (.bool false) w := by kernel_rfl
theorem eql_nil_range (w : World) : (binOp .eql 30 .nilIface (.iface 33 (.int .i64 11))).run Try.prog w = .ok (.bool false) w := by kernel_rfl

set_option maxHeartbeats 400000 in
theorem up_any (w : World) : Calls Try.prog 6 #[] w fun e w' => e = .returned (.bool true) ∧ Below w.heap.size w w' := by
  have L := laid3 w (.int .i64 0) (.int .i64 0) (.int .i64 1) (.int .i64 0) (.int .i64 1) (.int .i64 1) 23
  have ht : turnI 0 0 1 0 1 1 = 1 := by decide
  have m1 : mayB 1 1 = true := by decide
  have m2 : mayB 1073741825 0 = false := by decide
  have hq := eql_range
  go_enter Try.func6, Try.ntmps6
  go_wp2_with fail
  refine (add_no3 1073741824 0 1 0 _ (by decide) (by decide) (by decide)).mono ?_
  rintro e w1 ⟨rfl, hb1⟩
  have K1 := keep3 hb1 L; clear hb1
  have M1 := more3 (.cells #[.int .i64 0, .int .i64 0] 23) K1
  go_wp2_with fail
  refine (turn_any 0 0 1 0 1 1 _ (by decide) (by decide) (by decide)).mono ?_
  rintro e w2 ⟨rfl, hb2⟩
  have K2 := keep3 hb2 M1; clear hb2
  go_wp2_with fail
  refine (may_any _ _ _).mono ?_
  rintro e w3 ⟨rfl, hb3⟩
  have K3 := keep3 hb3 K2; clear hb3
  go_wp2_with fail
  refine (may_any _ _ _).mono ?_
  rintro e w4 ⟨rfl, hb4⟩
  have K4 := keep3 hb4 K3; clear hb4
  go_wp2_with fail
  go_ret
  exact ⟨rfl, last3 K4⟩
end Go.Proofs.Ytjdeoneefgoaaaa.Pt
