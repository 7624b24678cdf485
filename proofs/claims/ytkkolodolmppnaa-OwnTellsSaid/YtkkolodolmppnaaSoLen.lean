/-
  Contracts of math/bits.Len64 and Len, and of slices.nextPowerOfTwo.
-/
import Derived.Test.YtkkolodolmppnaaProg
import Derived.Lib.Strings
import Derived.Lib.Slices
import Derived.Lib.Small
import Derived.Lib.Walk
import Derived.Lib.BitFns
namespace Go.Proofs.Ytkkolodolmppnaa.So
set_option linter.unusedVariables false

set_option maxHeartbeats 4000000 in
set_option maxRecDepth 100000 in
theorem len64_any (x : Int) (w : World) (h0 : 0 ≤ x) (h1 : x < 18446744073709551616) :
    Calls Try.prog 54 #[.int .u64 x] w fun e w' => e = .returned (.int .i64 (Lib.bitLen x.toNat)) ∧ w' = w := by
  go_enter Try.func54, Try.ntmps54
  go_wp2
  all_goals (go_ret; refine ⟨congrArg Ending.returned (congrArg (Value.int IntKind.i64) ?_), rfl⟩)
  all_goals first
    | (have k : ∀ y : Int, y = x / 4294967296 / 65536 / 256 % 256 → Lib.len8 y + 56 = (Lib.bitLen x.toNat : Int) := fun y hy => by
         have l := Lib.len8_of y (by omega) (by omega)
         have s := Lib.bitLen_shift56 x.toNat (by omega) (by omega)
         rw [show y.toNat = x.toNat / 72057594037927936 by omega] at l
         omega
       have := k _ rfl
       have b := Lib.bitLen_le x.toNat 64 (by omega) (by omega)
       omega)
    | (have k : ∀ y : Int, y = x / 4294967296 / 65536 % 256 → Lib.len8 y + 48 = (Lib.bitLen x.toNat : Int) := fun y hy => by
         have l := Lib.len8_of y (by omega) (by omega)
         have s := Lib.bitLen_shift48 x.toNat (by omega) (by omega)
         rw [show y.toNat = x.toNat / 281474976710656 by omega] at l
         omega
       have := k _ rfl
       have b := Lib.bitLen_le x.toNat 64 (by omega) (by omega)
       omega)
    | (have k : ∀ y : Int, y = x / 4294967296 / 256 % 256 → Lib.len8 y + 40 = (Lib.bitLen x.toNat : Int) := fun y hy => by
         have l := Lib.len8_of y (by omega) (by omega)
         have s := Lib.bitLen_shift40 x.toNat (by omega) (by omega)
         rw [show y.toNat = x.toNat / 1099511627776 by omega] at l
         omega
       have := k _ rfl
       have b := Lib.bitLen_le x.toNat 64 (by omega) (by omega)
       omega)
    | (have k : ∀ y : Int, y = x / 4294967296 % 256 → Lib.len8 y + 32 = (Lib.bitLen x.toNat : Int) := fun y hy => by
         have l := Lib.len8_of y (by omega) (by omega)
         have s := Lib.bitLen_shift32 x.toNat (by omega) (by omega)
         rw [show y.toNat = x.toNat / 4294967296 by omega] at l
         omega
       have := k _ rfl
       have b := Lib.bitLen_le x.toNat 64 (by omega) (by omega)
       omega)
    | (have k : ∀ y : Int, y = x / 65536 / 256 % 256 → Lib.len8 y + 24 = (Lib.bitLen x.toNat : Int) := fun y hy => by
         have l := Lib.len8_of y (by omega) (by omega)
         have s := Lib.bitLen_shift24 x.toNat (by omega) (by omega)
         rw [show y.toNat = x.toNat / 16777216 by omega] at l
         omega
       have := k _ rfl
       have b := Lib.bitLen_le x.toNat 64 (by omega) (by omega)
       omega)
    | (have k : ∀ y : Int, y = x / 65536 % 256 → Lib.len8 y + 16 = (Lib.bitLen x.toNat : Int) := fun y hy => by
         have l := Lib.len8_of y (by omega) (by omega)
         have s := Lib.bitLen_shift16 x.toNat (by omega) (by omega)
         rw [show y.toNat = x.toNat / 65536 by omega] at l
         omega
       have := k _ rfl
       have b := Lib.bitLen_le x.toNat 64 (by omega) (by omega)
       omega)
    | (have k : ∀ y : Int, y = x / 256 % 256 → Lib.len8 y + 8 = (Lib.bitLen x.toNat : Int) := fun y hy => by
         have l := Lib.len8_of y (by omega) (by omega)
         have s := Lib.bitLen_shift8 x.toNat (by omega) (by omega)
         rw [show y.toNat = x.toNat / 256 by omega] at l
         omega
       have := k _ rfl
       have b := Lib.bitLen_le x.toNat 64 (by omega) (by omega)
       omega)
    | (have k : ∀ y : Int, y = x % 256 → Lib.len8 y = (Lib.bitLen x.toNat : Int) := fun y hy => by
         have l := Lib.len8_of y (by omega) (by omega)
         rw [show y.toNat = x.toNat by omega] at l
         omega
       have := k _ rfl
       have b := Lib.bitLen_le x.toNat 64 (by omega) (by omega)
       omega)

theorem len_any (x : Int) (w : World) (h0 : 0 ≤ x) (h1 : x < 18446744073709551616) :
    Calls Try.prog 40 #[.int .u64 x] w fun e w' => e = .returned (.int .i64 (Lib.bitLen x.toNat)) ∧ w' = w := by
  go_enter Try.func40, Try.ntmps40
  go_wp2_with (go_at_call 54; refine (len64_any x _ h0 h1).mono ?_; rintro e w' ⟨rfl, rfl⟩)
  go_ret
  exact ⟨rfl, rfl⟩

theorem bitLen_aux : ∀ f x : Nat, 0 < x → 2 ^ Lib.bitLenAux f x ≤ 2 * x := by
  intro f
  induction f with
  | zero => intro x h; simp [Lib.bitLenAux]; omega
  | succ f ih =>
    intro x h
    rw [Lib.bitLenAux]
    split
    · simp; omega
    · by_cases h1 : 0 < x / 2
      · have := ih (x / 2) h1
        rw [Nat.add_comm, Nat.pow_succ]; omega
      · have e : x / 2 = 0 := by omega
        have : Lib.bitLenAux f 0 = 0 := by cases f <;> simp [Lib.bitLenAux]
        rw [e, this]; simp; omega
theorem two_bitLen {x : Nat} (h : 0 < x) : 2 ^ Lib.bitLen x ≤ 2 * x := bitLen_aux 64 x h

end Go.Proofs.Ytkkolodolmppnaa.So
