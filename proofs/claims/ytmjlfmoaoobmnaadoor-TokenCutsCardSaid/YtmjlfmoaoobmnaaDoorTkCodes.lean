/-
  Contracts of Code of the statements' own package, at no error, at ErrLex and at ErrLarge: its number. Memory is left as it was.
-/
import Derived.Test.YtmjlfmoaoobmnaaDoorProg
import Derived.WalkKit
import Derived.WalkSpells
import Derived.LaidEql
import Derived.KernelRfl
import Derived.Below
import Derived.Handy
namespace Go.Proofs.YtmjlfmoaoobmnaaDoor.Tk
open Go.RowKit
set_option linter.unusedVariables false

theorem c_nil_nil (w : World) : (binOp .eql 25 .nilIface .nilIface).run Tryd.prog w = .ok (.bool true) w := by kernel_rfl
def CodeR (n : Nat) (w : World) (i : Value) (wr : World) : Prop := ∃ j : Nat, 1 ≤ j ∧ j ≤ n ∧ i = .int .i64 j ∧ w = wr
theorem code_nil (w : World) : Calls Tryd.prog 8 #[.nilIface] w fun e w' => e = .returned (.int .i64 0) ∧ w = w' := by
  have h0 := c_nil_nil
  go_enter Tryd.func8, Tryd.ntmps8
  go_wp2_with fail
  go_ret
  exact ⟨rfl, rfl⟩

theorem c2_nil (w : World) : (binOp .eql 25 (.iface 37 (.int .i64 2)) .nilIface).run Tryd.prog w = .ok (.bool false) w := by kernel_rfl
theorem c2_1 (w : World) : (binOp .eql 25 (.iface 37 (.int .i64 2)) (.iface 37 (.int .i64 1))).run Tryd.prog w = .ok (.bool false) w := by kernel_rfl
theorem c2_2 (w : World) : (binOp .eql 25 (.iface 37 (.int .i64 2)) (.iface 37 (.int .i64 2))).run Tryd.prog w = .ok (.bool true) w := by kernel_rfl
set_option maxHeartbeats 1000000 in
theorem code_2 (w : World) : Calls Tryd.prog 8 #[.iface 37 (.int .i64 2)] w fun e w' => e = .returned (.int .i64 2) ∧ w = w' := by
  have h0 := c2_nil
  have h1 := c2_1
  have h2 := c2_2
  go_enter Tryd.func8, Tryd.ntmps8
  go_wp2_with fail
  go_loopw [3] (fun i wr => CodeR 2 w i wr) (fun i _ => 20 - (intOf i).toNat)
  case atStart => exact ⟨1, by omega, by omega, rfl, rfl⟩
  case round =>
    obtain ⟨j, ha, hb, rfl, rfl⟩ := hrel
    rcases (show j = 1 ∨ j = 2 by omega) with rfl | rfl
    · go_wp2_with fail
      go_roundw
      case rel => exact ⟨2, by omega, by omega, by go_num, rfl⟩
      case measure => simp [intOf]
    · go_wp2_with fail
      go_ret
      exact ⟨rfl, rfl⟩
theorem c5_nil (w : World) : (binOp .eql 25 (.iface 37 (.int .i64 5)) .nilIface).run Tryd.prog w = .ok (.bool false) w := by kernel_rfl
theorem c5_1 (w : World) : (binOp .eql 25 (.iface 37 (.int .i64 5)) (.iface 37 (.int .i64 1))).run Tryd.prog w = .ok (.bool false) w := by kernel_rfl
theorem c5_2 (w : World) : (binOp .eql 25 (.iface 37 (.int .i64 5)) (.iface 37 (.int .i64 2))).run Tryd.prog w = .ok (.bool false) w := by kernel_rfl
theorem c5_3 (w : World) : (binOp .eql 25 (.iface 37 (.int .i64 5)) (.iface 37 (.int .i64 3))).run Tryd.prog w = .ok (.bool false) w := by kernel_rfl
theorem c5_4 (w : World) : (binOp .eql 25 (.iface 37 (.int .i64 5)) (.iface 37 (.int .i64 4))).run Tryd.prog w = .ok (.bool false) w := by kernel_rfl
theorem c5_5 (w : World) : (binOp .eql 25 (.iface 37 (.int .i64 5)) (.iface 37 (.int .i64 5))).run Tryd.prog w = .ok (.bool true) w := by kernel_rfl
set_option maxHeartbeats 1000000 in
theorem code_5 (w : World) : Calls Tryd.prog 8 #[.iface 37 (.int .i64 5)] w fun e w' => e = .returned (.int .i64 5) ∧ w = w' := by
  have h0 := c5_nil
  have h1 := c5_1
  have h2 := c5_2
  have h3 := c5_3
  have h4 := c5_4
  have h5 := c5_5
  go_enter Tryd.func8, Tryd.ntmps8
  go_wp2_with fail
  go_loopw [3] (fun i wr => CodeR 5 w i wr) (fun i _ => 20 - (intOf i).toNat)
  case atStart => exact ⟨1, by omega, by omega, rfl, rfl⟩
  case round =>
    obtain ⟨j, ha, hb, rfl, rfl⟩ := hrel
    rcases (show j = 1 ∨ j = 2 ∨ j = 3 ∨ j = 4 ∨ j = 5 by omega) with rfl | rfl | rfl | rfl | rfl
    · go_wp2_with fail
      go_roundw
      case rel => exact ⟨2, by omega, by omega, by go_num, rfl⟩
      case measure => simp [intOf]
    · go_wp2_with fail
      go_roundw
      case rel => exact ⟨3, by omega, by omega, by go_num, rfl⟩
      case measure => simp [intOf]
    · go_wp2_with fail
      go_roundw
      case rel => exact ⟨4, by omega, by omega, by go_num, rfl⟩
      case measure => simp [intOf]
    · go_wp2_with fail
      go_roundw
      case rel => exact ⟨5, by omega, by omega, by go_num, rfl⟩
      case measure => simp [intOf]
    · go_wp2_with fail
      go_ret
      exact ⟨rfl, rfl⟩
end Go.Proofs.YtmjlfmoaoobmnaaDoor.Tk
