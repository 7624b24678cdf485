/-
  Contracts of the smallest functions of package token and of the document's answer: what sort a byte is of, whether a row is a word or a sign, that which is told where there is no token. Memory that was there is left as it was.
-/
import Derived.Test.YtmjlfmoaoobmnaaDoorProg
import Derived.Test.YtmjlfmoaoobmnaaDoorTkPlain
import Derived.WalkKit
import Derived.WalkSpells
import Derived.Lib.Strings
import Derived.Lib.Hide
import Derived.Below
import Derived.Handy
import Derived.KernelRfl
namespace Go.Proofs.YtmjlfmoaoobmnaaDoor.Tk
open Go.RowKit
set_option linter.unusedVariables false
set_option linter.unusedSimpArgs false

theorem byteI (c : UInt8) (a b : Nat) : (decide (a ≤ c.toNat) && decide (c.toNat ≤ b)) = (decide ((a : Int) ≤ (c.toNat : Nat)) && decide (((c.toNat : Nat) : Int) ≤ (b : Int))) := by
  congr 1 <;> exact decide_eq_decide.2 (by omega)
theorem lowI (c : UInt8) : low c = (decide ((97 : Int) ≤ (c.toNat : Nat)) && decide (((c.toNat : Nat) : Int) ≤ 122)) := byteI c 97 122
theorem digI (c : UInt8) : dig c = (decide ((48 : Int) ≤ (c.toNat : Nat)) && decide (((c.toNat : Nat) : Int) ≤ 57)) := byteI c 48 57
theorem txBI (c : UInt8) : txB c = (decide ((32 : Int) ≤ (c.toNat : Nat)) && decide (((c.toNat : Nat) : Int) ≤ 126)) := byteI c 32 126

theorem letter_any (c : UInt8) (w : World) : Calls Tryd.prog 14 #[.int .u8 (c.toNat : Nat)] w fun e w' => e = .returned (.bool (low c)) ∧ w = w' := by
  go_enter Tryd.func14, Tryd.ntmps14
  go_wp2
  · rename_i h; go_ret; exact ⟨by rw [lowI, decide_eq_true h, Bool.true_and]; rfl, rfl⟩
  · rename_i h; go_ret; exact ⟨by rw [lowI, decide_eq_false (Int.not_le.2 h), Bool.false_and]; rfl, rfl⟩
theorem digit_any (c : UInt8) (w : World) : Calls Tryd.prog 16 #[.int .u8 (c.toNat : Nat)] w fun e w' => e = .returned (.bool (dig c)) ∧ w = w' := by
  go_enter Tryd.func16, Tryd.ntmps16
  go_wp2
  · rename_i h; go_ret; exact ⟨by rw [digI, decide_eq_true h, Bool.true_and]; rfl, rfl⟩
  · rename_i h; go_ret; exact ⟨by rw [digI, decide_eq_false (Int.not_le.2 h), Bool.false_and]; rfl, rfl⟩
theorem textByte_any (c : UInt8) (w : World) : Calls Tryd.prog 31 #[.int .u8 (c.toNat : Nat)] w fun e w' => e = .returned (.bool (txB c)) ∧ w = w' := by
  go_enter Tryd.func31, Tryd.ntmps31
  go_wp2
  · rename_i h; go_ret; exact ⟨by rw [txBI, decide_eq_true h, Bool.true_and]; rfl, rfl⟩
  · rename_i h; go_ret; exact ⟨by rw [txBI, decide_eq_false (Int.not_le.2 h), Bool.false_and]; rfl, rfl⟩
theorem refLow_any (c : UInt8) (w : World) : Calls Tryd.prog 21 #[.int .u8 (c.toNat : Nat)] w fun e w' => e = .returned (.bool (low c)) ∧ w = w' := by
  go_enter Tryd.func21, Tryd.ntmps21
  go_wp2
  · rename_i h; go_ret; exact ⟨by rw [lowI, decide_eq_true h, Bool.true_and]; rfl, rfl⟩
  · rename_i h; go_ret; exact ⟨by rw [lowI, decide_eq_false (Int.not_le.2 h), Bool.false_and]; rfl, rfl⟩
theorem refDigit_any (c : UInt8) (w : World) : Calls Tryd.prog 22 #[.int .u8 (c.toNat : Nat)] w fun e w' => e = .returned (.bool (dig c)) ∧ w = w' := by
  go_enter Tryd.func22, Tryd.ntmps22
  go_wp2
  · rename_i h; go_ret; exact ⟨by rw [digI, decide_eq_true h, Bool.true_and]; rfl, rfl⟩
  · rename_i h; go_ret; exact ⟨by rw [digI, decide_eq_false (Int.not_le.2 h), Bool.false_and]; rfl, rfl⟩
theorem nameByte_any (c : UInt8) (w : World) : Calls Tryd.prog 25 #[.int .u8 (c.toNat : Nat)] w fun e w' => e = .returned (.bool (nmB c)) ∧ w = w' := by
  obtain ⟨b, hb⟩ : ∃ b, low c = b := ⟨_, rfl⟩
  have HN : nmB c = (b || dig c) := by rw [nmB, hb]
  rw [HN]
  have HB := Lib.hid hb
  clear HN
  cases b
  · clear hb
    go_enter Tryd.func25, Tryd.ntmps25
    go_wp2_with fail
    refine (letter_any c _).mono ?_
    rintro e w1 ⟨rfl, rfl⟩
    rw [HB.out]
    go_wp2_with fail
    refine (digit_any c _).mono ?_
    rintro e w1 ⟨rfl, rfl⟩
    go_wp2_with fail
    go_ret
    exact ⟨by simp, rfl⟩
  · clear hb
    go_enter Tryd.func25, Tryd.ntmps25
    go_wp2_with fail
    refine (letter_any c _).mono ?_
    rintro e w1 ⟨rfl, rfl⟩
    rw [HB.out]
    go_wp2_with fail
    go_ret
    exact ⟨by simp, rfl⟩

/-- No token. -/
def noTok : Value := .tuple #[.agg #[.int .i64 0, .int .i64 0, .int .i64 0, .string ⟨#[]⟩], .int .i64 0, .iface 37 (.int .i64 2)]
theorem amiss_any (w : World) : Calls Tryd.prog 26 #[] w fun e w' => e = .returned noTok ∧ Below w.heap.size w w' := by
  go_enter Tryd.func26, Tryd.ntmps26
  go_wp2_with fail
  refine bodyPost_ret (v := noTok) (by simp [results, Tryd.results26, go_sem, noTok]) rfl ⟨rfl, ?_⟩
  exact (Below.refl _ _).alloc (Nat.le_refl _) _

set_option maxHeartbeats 1000000 in
theorem word_any (s : ByteArray) (w : World) : Calls Tryd.prog 27 #[.string s] w fun e w' => e = .returned (.bool (wordB s.data.toList)) ∧ w = w' := by
  rw [← Lib.toList_data]
  go_enter Tryd.func27, Tryd.ntmps27
  go_wp2
  all_goals (go_ret; exact ⟨by simp_all [wordB], rfl⟩)
set_option maxHeartbeats 1000000 in
theorem sign_is (s : ByteArray) (w : World) : Calls Tryd.prog 32 #[.string s] w fun e w' => e = .returned (.bool (signB s.data.toList)) ∧ w = w' := by
  rw [← Lib.toList_data]
  go_enter Tryd.func32, Tryd.ntmps32
  go_wp2
  all_goals (go_ret; exact ⟨by simp_all [signB], rfl⟩)
end Go.Proofs.YtmjlfmoaoobmnaaDoor.Tk
