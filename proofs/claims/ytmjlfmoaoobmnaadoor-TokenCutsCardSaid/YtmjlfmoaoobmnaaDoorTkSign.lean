/-
  Contract of sign of package token: the sign that a text begins with, of two bytes, if there is one. Memory that was there is left as it was.
-/
import Derived.Test.YtmjlfmoaoobmnaaDoorTkLeaf
import Derived.Test.YtmjlfmoaoobmnaaDoorTkKit
namespace Go.Proofs.YtmjlfmoaoobmnaaDoor.Tk
open Go.RowKit
set_option linter.unusedVariables false
set_option linter.unusedSimpArgs false

theorem sign_yes {l : List UInt8} {z : Nat} (h1 : 1 ≤ z) (h2 : z ≤ 2) (hl : z ≤ l.length) (hno : ∀ y, z < y → y ≤ 2 → y ≤ l.length → signB (l.take y) = false) (hb : signB (l.take z) = true) :
    signL l = some ⟨5, 0, l.take z, z⟩ := by
  unfold signL
  by_cases e : z = 2
  · subst e
    rw [if_pos ⟨hl, hb⟩]
  · have e1 : z = 1 := by omega
    subst e1
    rw [if_neg, if_pos hb]
    rintro ⟨a, b⟩
    rw [hno 2 (by omega) (by omega) a] at b
    cases b
theorem sign_none {l : List UInt8} (h0 : 1 ≤ l.length) (hno : ∀ y, 0 < y → y ≤ 2 → y ≤ l.length → signB (l.take y) = false) : signL l = none := by
  unfold signL
  rw [if_neg, if_neg]
  · rw [hno 1 (by omega) (by omega) h0]; simp
  · rintro ⟨a, b⟩
    rw [hno 2 (by omega) (by omega) a] at b
    cases b
def SignR (l : List UInt8) (w : World) (vi : Value) (wr : World) : Prop :=
  ∃ z : Nat, z ≤ 2 ∧ z ≤ l.length ∧ vi = .int .i64 z ∧ Hid (∀ y, z < y → y ≤ 2 → y ≤ l.length → signB (l.take y) = false) ∧ w = wr
theorem run_min2 (P : Program) (ts : Array TypeId) (t : TypeId) (n m : Nat) (hm : m ≤ 2) (h : m = 2 ∧ 2 ≤ n ∨ m = n ∧ n < 2) (W : World) : (Builtin.min_ ts t #[.int .i64 2, .int .i64 (n : Int)]).run P W = .ok (.int .i64 (m : Int)) W := by
  rw [run_min_int2 W ts t .i64 .i64 2 (n : Int)]
  rcases h with ⟨rfl, h⟩ | ⟨rfl, h⟩
  · rw [if_neg (by omega)]; rfl
  · rw [if_pos (by omega)]

set_option maxHeartbeats 1000000 in
theorem sign_any (s : ByteArray) (h0 : 1 ≤ s.size) (w : World) : Calls Tryd.prog 19 #[.string s] w fun e w' => e = .returned (lexV 37 (signL s.data.toList)) ∧ Below w.heap.size w w' := by
  have HS := Lib.hid (Lib.size_eq s)
  have K0 := Lib.hid (Blk.new w (.int .i64 0) (.int .i64 0) (.int .i64 0) (.string ⟨#[]⟩) 36)
  have B0 := Lib.hid ((Below.refl w.heap.size w).alloc (Nat.le_refl _) (.cells #[.int .i64 0, .int .i64 0, .int .i64 0, .string ⟨#[]⟩] 36))
  obtain ⟨m, hm2, hm⟩ : ∃ m : Nat, m ≤ 2 ∧ (m = 2 ∧ 2 ≤ s.size ∨ m = s.size ∧ s.size < 2) := by
    by_cases h : 2 ≤ s.size
    · exact ⟨2, by omega, Or.inl ⟨rfl, h⟩⟩
    · exact ⟨s.size, by omega, Or.inr ⟨rfl, by omega⟩⟩
  have hmn := fun ts t W => run_min2 Tryd.prog ts t s.size m hm2 hm W
  have HM := Lib.hid (And.intro hm2 hm)
  have H0 := Lib.hid h0
  clear hm2 hm h0
  go_enter Tryd.func19, Tryd.ntmps19
  go_wp2_with fail
  obtain ⟨v, hv⟩ : ∃ v, v = w.alloc (.cells #[.int .i64 0, .int .i64 0, .int .i64 0, .string ⟨#[]⟩] 36) := ⟨_, rfl⟩
  rw [← hv]
  rw [← hv] at K0 B0
  clear hmn hv
  go_loopw [5] (fun vi wr => SignR s.data.toList v vi wr) (fun vi _ => (intOf vi).toNat)
  case atStart => exact ⟨m, HM.out.1, by have := HM.out; have := HS.out; omega, rfl, Lib.hid fun y h1 h2 h3 => absurd h1 (by have := HM.out; have := HS.out; omega), rfl⟩
  case round =>
    obtain ⟨z, hz2, hzl, rfl, hno, rfl⟩ := hrel
    by_cases hz : z = 0
    · subst hz
      have HR := Lib.hid (sign_none (by have := HS.out; have := H0.out; omega) (fun y a b c => hno.out y a b c))
      go_wp2_with fail
      refine (amiss_any _).mono ?_
      rintro e w2 ⟨rfl, hb2⟩
      have B2 := Lib.hid (B0.out.trans (hb2.mono B0.out.size))
      obtain ⟨c0, c1, c2, c3, cf, cl⟩ := K0.out.later hb2
      clear hb2
      unfold noTok
      go_wp2_with fail
      rw [HR.out]
      refine bodyPost_ret (v := lexV 37 none) (by simp [results, Tryd.results19, go_sem, lexV, *]) rfl ⟨rfl, ?_⟩
      exact set4 B2.out (Nat.le_refl _) _ _ _ _
    · have hzz : (0 : Int) < (z : Int) := by omega
      have hzs : (z : Int) ≤ (s.size : Int) := by have := HS.out; omega
      obtain ⟨b, hb⟩ : ∃ b, signB (s.extract 0 z).data.toList = b := ⟨_, rfl⟩
      have HB := Lib.hid hb
      have HZ := Lib.hid (And.intro hz2 hzl)
      clear hb hz2 hzl
      have hw : wrap64 ((z : Int) - 1) = ((z - 1 : Nat) : Int) := by have := HZ.out; unfold wrap64; omega
      obtain ⟨c0, c1, c2, c3, cf, cl⟩ := K0.out
      go_wp2_with fail
      refine (sign_is _ _).mono ?_
      rintro e w1 ⟨rfl, rfl⟩
      rw [HB.out]
      cases b
      · go_wp2_with fail
        go_roundw
        case rel => exact ⟨z - 1, by have := HZ.out; omega, by have := HZ.out; omega, congrArg (Value.int .i64) hw, Lib.hid fun y a b c => by
          by_cases e : y = z
          · subst e; rw [← take_data]; exact HB.out
          · exact hno.out y (by omega) b c, rfl⟩
        case measure => simp [intOf]; omega
      · have HR := Lib.hid (sign_yes (by omega) HZ.out.1 HZ.out.2 hno.out (by rw [← take_data]; exact HB.out))
        go_wp2_with fail
        rw [HR.out]
        refine bodyPost_ret (v := lexV 37 _) (by simp [results, Tryd.results19, go_sem, lexV, take_extract, *]) rfl ⟨rfl, ?_⟩
        exact set4 B0.out (Nat.le_refl _) _ _ _ _
end Go.Proofs.YtmjlfmoaoobmnaaDoor.Tk
