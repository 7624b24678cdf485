/-
  Contract of text of package token: the text that a list of bytes begins with, by a ". Memory that was there is left as it was.
-/
import Derived.Test.YtmjlfmoaoobmnaaDoorTkRow
import Derived.Test.YtmjlfmoaoobmnaaDoorTkKit
import Derived.Test.YtmjlfmoaoobmnaaDoorTkShelf
namespace Go.Proofs.YtmjlfmoaoobmnaaDoor.Tk
open Go.RowKit
set_option linter.unusedVariables false
set_option linter.unusedSimpArgs false

theorem index_is : ∀ (r : List UInt8), (Lib.indexByte r 34 = -1 ∧ ∀ (j : Nat) (c : UInt8), r[j]? = some c → c ≠ 34) ∨
    ∃ k : Nat, Lib.indexByte r 34 = (k : Int) ∧ r[k]? = some 34 ∧ ∀ (j : Nat) (c : UInt8), j < k → r[j]? = some c → c ≠ 34
  | [] => Or.inl ⟨rfl, fun j c h => by simp at h⟩
  | d :: r => by
    by_cases hd : d = 34
    · subst hd
      exact Or.inr ⟨0, rfl, rfl, fun j c h => absurd h (Nat.not_lt_zero _)⟩
    · have hb : (d == 34) = false := by simpa using hd
      rcases index_is r with ⟨e, h⟩ | ⟨k, e, hk, h⟩
      · refine Or.inl ⟨by rw [Lib.indexByte, hb, e]; rfl, fun j c hc => ?_⟩
        match j, hc with
        | 0, hc => simp at hc; subst hc; exact hd
        | j + 1, hc => exact h j c (by simpa using hc)
      · refine Or.inr ⟨k + 1, ?_, by simpa using hk, fun j c hj hc => ?_⟩
        · rw [Lib.indexByte, hb, e]
          have : ((k : Int) == -1) = false := by simp
          simp [this]
        · match j, hc with
          | 0, hc => simp at hc; subst hc; exact hd
          | j + 1, hc => exact h j c (by omega) (by simpa using hc)
theorem inB34 : inB 34 = false := by decide
theorem text_yes {r : List UInt8} {k : Nat} (hk : r[k]? = some 34) (hno : ∀ (j : Nat) (c : UInt8), j < k → r[j]? = some c → c ≠ 34) (h200 : k ≤ 200) (hrow : k ≤ run txB (r.take k)) :
    textL r = some ⟨4, 0, r.take k, k + 2⟩ := by
  have hkl := (List.getElem?_eq_some_iff.1 hk).1
  have hm : run inB r = k := by
    refine run_eq inB r k (by omega) (fun j c hj hc => ?_) (fun c hc => ?_)
    · rw [run_take] at hrow
      have h1 := run_all txB r j c (by omega) hc
      have h2 := hno j c hj hc
      have h3 : ¬ c.toNat = 34 := fun e => h2 (UInt8.toNat_inj.1 e)
      simp [inB, h1, h3]
    · rw [hk] at hc
      cases hc
      exact inB34
  unfold textL
  rw [hm, if_pos ⟨h200, hk⟩]
theorem text_at {r : List UInt8} {k : Nat} (hk : r[k]? = some 34) (hno : ∀ (j : Nat) (c : UInt8), j < k → r[j]? = some c → c ≠ 34) (he : r[run inB r]? = some 34) : run inB r = k := by
  rcases Nat.lt_trichotomy (run inB r) k with h | h | h
  · exact absurd rfl (hno _ _ h he)
  · exact h
  · have := run_all inB r k 34 h hk
    rw [inB34] at this
    cases this
theorem text_far {r : List UInt8} {k : Nat} (hk : r[k]? = some 34) (hno : ∀ (j : Nat) (c : UInt8), j < k → r[j]? = some c → c ≠ 34) (h200 : 200 < k) : textL r = none := by
  unfold textL
  rw [if_neg]
  rintro ⟨h1, h2⟩
  have := text_at hk hno h2
  omega
theorem text_row {r : List UInt8} {k : Nat} (hk : r[k]? = some 34) (hno : ∀ (j : Nat) (c : UInt8), j < k → r[j]? = some c → c ≠ 34) (hrow : run txB (r.take k) < k) : textL r = none := by
  have hkl := (List.getElem?_eq_some_iff.1 hk).1
  unfold textL
  rw [if_neg]
  rintro ⟨h1, h2⟩
  have hm := text_at hk hno h2
  rw [run_take] at hrow
  have hlt : run txB r < r.length := by omega
  have a1 := run_end txB r r[run txB r] (by simp [hlt])
  have a2 := run_all inB r (run txB r) r[run txB r] (by omega) (by simp [hlt])
  simp [inB, a1] at a2
theorem text_none {r : List UInt8} (hno : ∀ (j : Nat) (c : UInt8), r[j]? = some c → c ≠ 34) : textL r = none := by
  unfold textL
  rw [if_neg]
  rintro ⟨h1, h2⟩
  exact absurd rfl (hno _ _ h2)

set_option maxHeartbeats 1000000 in
theorem text_any (s : ByteArray) (hs : s.size ≤ 1048576) (c : UInt8) (r : List UInt8) (hL : s.data.toList = c :: r) (w : World) : Calls Tryd.prog 18 #[.string s] w fun e w' => e = .returned (lexV 37 (textL r)) ∧ Below w.heap.size w w' := by
  have HL := Lib.hid hL
  have hsl : s.size = r.length + 1 := by rw [Lib.size_eq, hL]; rfl
  have h1z : (1 : Int) ≤ (s.size : Int) := by omega
  have HSL := Lib.hid hsl
  have HT := Lib.hid (show (s.extract 1 s.size).data.toList = r by rw [Lib.extract_to_end, HL.out]; rfl)
  have K0 := Lib.hid (Blk.new w (.int .i64 0) (.int .i64 0) (.int .i64 0) (.string ⟨#[]⟩) 36)
  have B0 := Lib.hid ((Below.refl w.heap.size w).alloc (Nat.le_refl _) (.cells #[.int .i64 0, .int .i64 0, .int .i64 0, .string ⟨#[]⟩] 36))
  have C := Lib.hid (fun W => Tryd.strings_IndexByte (s.extract 1 s.size) 34 W)
  rw [HT.out, show ((34 : Int).toNat.toUInt8) = (34 : UInt8) from rfl] at C
  clear hL hsl
  rcases index_is r with ⟨e, h⟩ | ⟨k, e, hk, h⟩
  · rw [e] at C
    have HR := Lib.hid (text_none h)
    clear e h
    go_enter Tryd.func18, Tryd.ntmps18
    go_wp2_with fail
    refine (C.out _).mono ?_
    rintro e w1 ⟨rfl, rfl⟩
    go_wp2_with fail
    refine (amiss_any _).mono ?_
    rintro e w2 ⟨rfl, hb2⟩
    have B2 := Lib.hid (B0.out.trans (hb2.mono (by simp)))
    obtain ⟨c0, c1, c2, c3, cf, cl⟩ := K0.out.later hb2
    clear hb2
    unfold noTok
    go_wp2_with fail
    rw [HR.out]
    refine bodyPost_ret (v := lexV 37 none) (by simp [results, Tryd.results18, go_sem, lexV, *]) rfl ⟨rfl, ?_⟩
    exact set4 B2.out (Nat.le_refl _) _ _ _ _
  · rw [e] at C
    have hkl := (List.getElem?_eq_some_iff.1 hk).1
    have hk0 : ¬ (k : Int) < 0 := by omega
    have E := Lib.hid (And.intro hk h)
    clear e hk h
    by_cases h200 : k ≤ 200
    · have hz : ¬ (200 : Int) < (k : Int) := by omega
      have hz2 : (k : Int) ≤ 200 := by omega
      have hk2 : (1 : Int) + (k : Int) ≤ (s.size : Int) := by have := HSL.out; omega
      have e1 : ((1 : Int) + (k : Int)).toNat = k + 1 := by omega
      have HW := Lib.hid (show (s.extract 1 (k + 1)).data.toList = r.take k by rw [Lib.extract_data, HL.out]; simp)
      have C2 := Lib.hid (fun W => rowText_any (s.extract 1 (k + 1)) (by simp only [ByteArray.size_extract]; omega) W)
      rw [HW.out] at C2
      obtain ⟨m, hm⟩ : ∃ m, run txB (r.take k) = m := ⟨_, rfl⟩
      rw [hm] at C2
      by_cases hmk : m < k
      · have hmz : (m : Int) < (k : Int) := by omega
        have HR := Lib.hid (text_row E.out.1 E.out.2 (by rw [hm]; exact hmk))
        clear hm h200 hmk
        go_enter Tryd.func18, Tryd.ntmps18
        go_wp2_with fail
        refine (C.out _).mono ?_
        rintro e w1 ⟨rfl, rfl⟩
        go_wp2_with fail
        refine (C2.out _).mono ?_
        rintro e w1 ⟨rfl, rfl⟩
        go_wp2_with fail
        refine (amiss_any _).mono ?_
        rintro e w2 ⟨rfl, hb2⟩
        have B2 := Lib.hid (B0.out.trans (hb2.mono (by simp)))
        obtain ⟨c0, c1, c2, c3, cf, cl⟩ := K0.out.later hb2
        clear hb2
        unfold noTok
        go_wp2_with fail
        rw [HR.out]
        refine bodyPost_ret (v := lexV 37 none) (by simp [results, Tryd.results18, go_sem, lexV, *]) rfl ⟨rfl, ?_⟩
        exact set4 B2.out (Nat.le_refl _) _ _ _ _
      · have hmz : ¬ (m : Int) < (k : Int) := by omega
        have HR := Lib.hid (text_yes E.out.1 E.out.2 h200 (by rw [hm]; omega))
        have HP := Lib.hid (show s.extract 1 (k + 1) = ⟨(r.take k).toArray⟩ by rw [piece, HL.out]; simp)
        clear hm h200 hmk
        go_enter Tryd.func18, Tryd.ntmps18
        go_wp2_with fail
        refine (C.out _).mono ?_
        rintro e w1 ⟨rfl, rfl⟩
        go_wp2_with fail
        refine (C2.out _).mono ?_
        rintro e w1 ⟨rfl, rfl⟩
        go_wp2_with fail
        rw [HR.out]
        refine bodyPost_ret (v := lexV 37 _) (by simp [results, Tryd.results18, go_sem, lexV, HP.out]) rfl ⟨rfl, ?_⟩
        exact (Below.refl _ _).alloc (Nat.le_refl _) _
    · have hz : (200 : Int) < (k : Int) := by omega
      have hz2 : ¬ (k : Int) ≤ 200 := by omega
      have HR := Lib.hid (text_far E.out.1 E.out.2 (by omega))
      clear h200
      go_enter Tryd.func18, Tryd.ntmps18
      go_wp2_with fail
      refine (C.out _).mono ?_
      rintro e w1 ⟨rfl, rfl⟩
      go_wp2_with fail
      refine (amiss_any _).mono ?_
      rintro e w2 ⟨rfl, hb2⟩
      have B2 := Lib.hid (B0.out.trans (hb2.mono (by simp)))
      obtain ⟨c0, c1, c2, c3, cf, cl⟩ := K0.out.later hb2
      clear hb2
      unfold noTok
      go_wp2_with fail
      rw [HR.out]
      refine bodyPost_ret (v := lexV 37 none) (by simp [results, Tryd.results18, go_sem, lexV, *]) rfl ⟨rfl, ?_⟩
      exact set4 B2.out (Nat.le_refl _) _ _ _ _
end Go.Proofs.YtmjlfmoaoobmnaaDoor.Tk
