/-
  The contract of Code of the statements' own package, at the error of a range: its number. Memory is left as it was.
-/
import Derived.Test.YtoijgppkpagelaaProg
import Derived.WalkKit
import Derived.WalkSpells
import Derived.LaidEql
import Derived.KernelRfl
import Derived.Below
import Derived.Handy
namespace Go.Proofs.Ytoijgppkpagelaa.Cd
open Go.RowKit
set_option linter.unusedVariables false

theorem nil_no (w : World) : (binOp .eql 32 (.iface 35 (.int .i64 11)) .nilIface).run Try.prog w = .ok (.bool false) w := by kernel_rfl
theorem eql_1 (w : World) : (binOp .eql 32 (.iface 35 (.int .i64 11)) (.iface 35 (.int .i64 1))).run Try.prog w = .ok (.bool false) w := by kernel_rfl
theorem eql_2 (w : World) : (binOp .eql 32 (.iface 35 (.int .i64 11)) (.iface 35 (.int .i64 2))).run Try.prog w = .ok (.bool false) w := by kernel_rfl
theorem eql_3 (w : World) : (binOp .eql 32 (.iface 35 (.int .i64 11)) (.iface 35 (.int .i64 3))).run Try.prog w = .ok (.bool false) w := by kernel_rfl
theorem eql_4 (w : World) : (binOp .eql 32 (.iface 35 (.int .i64 11)) (.iface 35 (.int .i64 4))).run Try.prog w = .ok (.bool false) w := by kernel_rfl
theorem eql_5 (w : World) : (binOp .eql 32 (.iface 35 (.int .i64 11)) (.iface 35 (.int .i64 5))).run Try.prog w = .ok (.bool false) w := by kernel_rfl
theorem eql_6 (w : World) : (binOp .eql 32 (.iface 35 (.int .i64 11)) (.iface 35 (.int .i64 6))).run Try.prog w = .ok (.bool false) w := by kernel_rfl
theorem eql_7 (w : World) : (binOp .eql 32 (.iface 35 (.int .i64 11)) (.iface 35 (.int .i64 7))).run Try.prog w = .ok (.bool false) w := by kernel_rfl
theorem eql_8 (w : World) : (binOp .eql 32 (.iface 35 (.int .i64 11)) (.iface 35 (.int .i64 8))).run Try.prog w = .ok (.bool false) w := by kernel_rfl
theorem eql_9 (w : World) : (binOp .eql 32 (.iface 35 (.int .i64 11)) (.iface 35 (.int .i64 9))).run Try.prog w = .ok (.bool false) w := by kernel_rfl
theorem eql_10 (w : World) : (binOp .eql 32 (.iface 35 (.int .i64 11)) (.iface 35 (.int .i64 10))).run Try.prog w = .ok (.bool false) w := by kernel_rfl
theorem eql_11 (w : World) : (binOp .eql 32 (.iface 35 (.int .i64 11)) (.iface 35 (.int .i64 11))).run Try.prog w = .ok (.bool true) w := by kernel_rfl

def CodeRel (w : World) (i : Value) (wr : World) : Prop := ∃ j : Nat, 1 ≤ j ∧ j ≤ 11 ∧ i = .int .i64 j ∧ w = wr
set_option maxHeartbeats 1000000 in
theorem code_range (w : World) : Calls Try.prog 15 #[.iface 35 (.int .i64 11)] w fun e w' => e = .returned (.int .i64 11) ∧ w = w' := by
  have h0 := nil_no
  have h1 := eql_1
  have h2 := eql_2
  have h3 := eql_3
  have h4 := eql_4
  have h5 := eql_5
  have h6 := eql_6
  have h7 := eql_7
  have h8 := eql_8
  have h9 := eql_9
  have h10 := eql_10
  have h11 := eql_11
  go_enter Try.func15, Try.ntmps15
  go_wp2_with fail
  go_loopw [3] (fun i wr => CodeRel w i wr) (fun i _ => 20 - (intOf i).toNat)
  case atStart => exact ⟨1, by omega, by omega, rfl, rfl⟩
  case round =>
    obtain ⟨j, ha, hb, rfl, rfl⟩ := hrel
    rcases (show j = 1 ∨ j = 2 ∨ j = 3 ∨ j = 4 ∨ j = 5 ∨ j = 6 ∨ j = 7 ∨ j = 8 ∨ j = 9 ∨ j = 10 ∨ j = 11 by omega) with rfl | rfl | rfl | rfl | rfl | rfl | rfl | rfl | rfl | rfl | rfl
    · go_wp2_with fail
      go_roundw
      case rel => exact ⟨2, by omega, by omega, by go_num, rfl⟩
      case measure => simp [intOf]
    · go_wp2_with fail
      go_roundw
      case rel => exact ⟨3, by omega, by omega, by go_num, rfl⟩
      case measure => simp [intOf]
    · go_wp2_with fail
      go_roundw
      case rel => exact ⟨4, by omega, by omega, by go_num, rfl⟩
      case measure => simp [intOf]
    · go_wp2_with fail
      go_roundw
      case rel => exact ⟨5, by omega, by omega, by go_num, rfl⟩
      case measure => simp [intOf]
    · go_wp2_with fail
      go_roundw
      case rel => exact ⟨6, by omega, by omega, by go_num, rfl⟩
      case measure => simp [intOf]
    · go_wp2_with fail
      go_roundw
      case rel => exact ⟨7, by omega, by omega, by go_num, rfl⟩
      case measure => simp [intOf]
    · go_wp2_with fail
      go_roundw
      case rel => exact ⟨8, by omega, by omega, by go_num, rfl⟩
      case measure => simp [intOf]
    · go_wp2_with fail
      go_roundw
      case rel => exact ⟨9, by omega, by omega, by go_num, rfl⟩
      case measure => simp [intOf]
    · go_wp2_with fail
      go_roundw
      case rel => exact ⟨10, by omega, by omega, by go_num, rfl⟩
      case measure => simp [intOf]
    · go_wp2_with fail
      go_roundw
      case rel => exact ⟨11, by omega, by omega, by go_num, rfl⟩
      case measure => simp [intOf]
    · go_wp2_with fail
      go_ret
      exact ⟨rfl, rfl⟩
end Go.Proofs.Ytoijgppkpagelaa.Cd
