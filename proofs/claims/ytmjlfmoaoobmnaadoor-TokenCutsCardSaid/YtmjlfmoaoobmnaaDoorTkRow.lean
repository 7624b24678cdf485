/-
  Contract of row of package token, at each of the three functions that it is handed: how many bytes a text begins with that are all of one sort. Memory is left as it was.
-/
import Derived.Test.YtmjlfmoaoobmnaaDoorTkLeaf
import Derived.Lib.IndexBytes
namespace Go.Proofs.YtmjlfmoaoobmnaaDoor.Tk
open Go.RowKit
set_option linter.unusedVariables false
set_option linter.unusedSimpArgs false

def RowR (p : UInt8 → Bool) (l : List UInt8) (w : World) (vi : Value) (wr : World) : Prop :=
  ∃ k : Nat, k ≤ l.length ∧ vi = .int .i64 k ∧ Hid (∀ (j : Nat) (c : UInt8), j < k → l[j]? = some c → p c = true) ∧ w = wr
theorem row_more {p : UInt8 → Bool} {l : List UInt8} {k : Nat} {c : UInt8} (h : ∀ (j : Nat) (c : UInt8), j < k → l[j]? = some c → p c = true) (hc : l[k]? = some c) (hp : p c = true) : ∀ (j : Nat) (c : UInt8), j < k + 1 → l[j]? = some c → p c = true := by
  intro j d hj hd
  by_cases e : j = k
  · subst e
    rw [hc] at hd
    cases hd
    exact hp
  · exact h j d (by omega) hd


set_option maxHeartbeats 1000000 in
theorem rowName_any (s : ByteArray) (hs : s.size ≤ 1048576) (w : World) : Calls Tryd.prog 24 #[.string s, .func (.func 25) #[] #[]] w fun e w' => e = .returned (.int .i64 (run nmB s.data.toList : Nat)) ∧ w = w' := by
  have hsz := Lib.hid (Lib.size_eq s)
  go_enter Tryd.func24, Tryd.ntmps24
  go_wp2_with fail
  go_loopw [8] (fun vi wr => RowR nmB s.data.toList w vi wr) (fun vi _ => s.size - (intOf vi).toNat)
  case atStart => exact ⟨0, Nat.zero_le _, rfl, Lib.hid fun j c h => absurd h (Nat.not_lt_zero _), rfl⟩
  case round =>
    obtain ⟨k, hk, rfl, hall, rfl⟩ := hrel
    have HK := Lib.hid hk
    by_cases hlt : k < s.size
    · have hlz : (k : Int) < (s.size : Int) := by omega
      obtain ⟨c, hc⟩ : ∃ c, s[k] = c := ⟨_, rfl⟩
      have HC := Lib.hid (show s.data.toList[k]? = some c by rw [← hc]; exact Lib.data_getElem? s k hlt)
      obtain ⟨b, hb⟩ : ∃ b, nmB c = b := ⟨_, rfl⟩
      have HB := Lib.hid hb
      clear hb hk
      go_wp2_with fail
      refine (nameByte_any c _).mono ?_
      rintro e w1 ⟨rfl, rfl⟩
      rw [HB.out]
      cases b
      · go_wp2_with fail
        go_ret
        have := run_eq nmB s.data.toList k HK.out hall.out (fun d hd => by have e := HC.out.symm.trans hd; cases e; exact HB.out)
        exact ⟨by rw [this]; rfl, rfl⟩
      · go_wp2_with fail
        go_roundw
        case rel => exact ⟨k + 1, by have := hsz.out; omega, by go_num, Lib.hid (row_more hall.out HC.out HB.out), rfl⟩
        case measure => simp [intOf]; omega
    · have hlz : ¬ (k : Int) < (s.size : Int) := by omega
      have hkk : k = s.size := by have := hsz.out; omega
      subst hkk
      have HT := Lib.hid (run_eq nmB s.data.toList s.size (by rw [hsz.out]; exact Nat.le_refl _) hall.out (fun d hd => by rw [hsz.out] at hd; simp at hd))
      clear hk
      go_wp2_with fail
      go_ret
      exact ⟨by rw [HT.out]; rfl, rfl⟩

set_option maxHeartbeats 1000000 in
theorem rowDigit_any (s : ByteArray) (hs : s.size ≤ 1048576) (w : World) : Calls Tryd.prog 24 #[.string s, .func (.func 16) #[] #[]] w fun e w' => e = .returned (.int .i64 (run dig s.data.toList : Nat)) ∧ w = w' := by
  have hsz := Lib.hid (Lib.size_eq s)
  go_enter Tryd.func24, Tryd.ntmps24
  go_wp2_with fail
  go_loopw [8] (fun vi wr => RowR dig s.data.toList w vi wr) (fun vi _ => s.size - (intOf vi).toNat)
  case atStart => exact ⟨0, Nat.zero_le _, rfl, Lib.hid fun j c h => absurd h (Nat.not_lt_zero _), rfl⟩
  case round =>
    obtain ⟨k, hk, rfl, hall, rfl⟩ := hrel
    have HK := Lib.hid hk
    by_cases hlt : k < s.size
    · have hlz : (k : Int) < (s.size : Int) := by omega
      obtain ⟨c, hc⟩ : ∃ c, s[k] = c := ⟨_, rfl⟩
      have HC := Lib.hid (show s.data.toList[k]? = some c by rw [← hc]; exact Lib.data_getElem? s k hlt)
      obtain ⟨b, hb⟩ : ∃ b, dig c = b := ⟨_, rfl⟩
      have HB := Lib.hid hb
      clear hb hk
      go_wp2_with fail
      refine (digit_any c _).mono ?_
      rintro e w1 ⟨rfl, rfl⟩
      rw [HB.out]
      cases b
      · go_wp2_with fail
        go_ret
        have := run_eq dig s.data.toList k HK.out hall.out (fun d hd => by have e := HC.out.symm.trans hd; cases e; exact HB.out)
        exact ⟨by rw [this]; rfl, rfl⟩
      · go_wp2_with fail
        go_roundw
        case rel => exact ⟨k + 1, by have := hsz.out; omega, by go_num, Lib.hid (row_more hall.out HC.out HB.out), rfl⟩
        case measure => simp [intOf]; omega
    · have hlz : ¬ (k : Int) < (s.size : Int) := by omega
      have hkk : k = s.size := by have := hsz.out; omega
      subst hkk
      have HT := Lib.hid (run_eq dig s.data.toList s.size (by rw [hsz.out]; exact Nat.le_refl _) hall.out (fun d hd => by rw [hsz.out] at hd; simp at hd))
      clear hk
      go_wp2_with fail
      go_ret
      exact ⟨by rw [HT.out]; rfl, rfl⟩

set_option maxHeartbeats 1000000 in
theorem rowText_any (s : ByteArray) (hs : s.size ≤ 1048576) (w : World) : Calls Tryd.prog 24 #[.string s, .func (.func 31) #[] #[]] w fun e w' => e = .returned (.int .i64 (run txB s.data.toList : Nat)) ∧ w = w' := by
  have hsz := Lib.hid (Lib.size_eq s)
  go_enter Tryd.func24, Tryd.ntmps24
  go_wp2_with fail
  go_loopw [8] (fun vi wr => RowR txB s.data.toList w vi wr) (fun vi _ => s.size - (intOf vi).toNat)
  case atStart => exact ⟨0, Nat.zero_le _, rfl, Lib.hid fun j c h => absurd h (Nat.not_lt_zero _), rfl⟩
  case round =>
    obtain ⟨k, hk, rfl, hall, rfl⟩ := hrel
    have HK := Lib.hid hk
    by_cases hlt : k < s.size
    · have hlz : (k : Int) < (s.size : Int) := by omega
      obtain ⟨c, hc⟩ : ∃ c, s[k] = c := ⟨_, rfl⟩
      have HC := Lib.hid (show s.data.toList[k]? = some c by rw [← hc]; exact Lib.data_getElem? s k hlt)
      obtain ⟨b, hb⟩ : ∃ b, txB c = b := ⟨_, rfl⟩
      have HB := Lib.hid hb
      clear hb hk
      go_wp2_with fail
      refine (textByte_any c _).mono ?_
      rintro e w1 ⟨rfl, rfl⟩
      rw [HB.out]
      cases b
      · go_wp2_with fail
        go_ret
        have := run_eq txB s.data.toList k HK.out hall.out (fun d hd => by have e := HC.out.symm.trans hd; cases e; exact HB.out)
        exact ⟨by rw [this]; rfl, rfl⟩
      · go_wp2_with fail
        go_roundw
        case rel => exact ⟨k + 1, by have := hsz.out; omega, by go_num, Lib.hid (row_more hall.out HC.out HB.out), rfl⟩
        case measure => simp [intOf]; omega
    · have hlz : ¬ (k : Int) < (s.size : Int) := by omega
      have hkk : k = s.size := by have := hsz.out; omega
      subst hkk
      have HT := Lib.hid (run_eq txB s.data.toList s.size (by rw [hsz.out]; exact Nat.le_refl _) hall.out (fun d hd => by rw [hsz.out] at hd; simp at hd))
      clear hk
      go_wp2_with fail
      go_ret
      exact ⟨by rw [HT.out]; rfl, rfl⟩
end Go.Proofs.YtmjlfmoaoobmnaaDoor.Tk
