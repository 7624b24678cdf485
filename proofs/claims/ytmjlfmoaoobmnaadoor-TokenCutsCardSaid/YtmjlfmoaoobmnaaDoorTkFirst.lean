/-
  Contract of first of package token: the token that a text begins with. Memory that was there is left as it was.
-/
import Derived.Test.YtmjlfmoaoobmnaaDoorTkName
import Derived.Test.YtmjlfmoaoobmnaaDoorTkText
import Derived.Test.YtmjlfmoaoobmnaaDoorTkSign
import Derived.Test.YtmjlfmoaoobmnaaDoorTkNum
namespace Go.Proofs.YtmjlfmoaoobmnaaDoor.Tk
open Go.RowKit
set_option linter.unusedVariables false
set_option linter.unusedSimpArgs false

set_option maxHeartbeats 2000000 in
theorem first_any (s : ByteArray) (hs : s.size ≤ 1048576) (c : UInt8) (r : List UInt8) (hL : s.data.toList = c :: r) (w : World) (hE : LaidE w) :
    Calls Tryd.prog 11 #[.string s] w fun e w' => e = .returned (lexV 37 (lex (c :: r))) ∧ Below w.heap.size w w' := by
  have HL := Lib.hid hL
  have hsl : s.size = r.length + 1 := by rw [Lib.size_eq, hL]; rfl
  have h0s : 0 < s.size := by omega
  have h0z : (0 : Int) < (s.size : Int) := by omega
  have HSL := Lib.hid hsl
  have hb0 : s[0] = c := by
    have := Lib.data_getElem? s 0 h0s
    rw [hL] at this
    simpa using this.symm
  have K0 := Lib.hid (Blk.new w (.int .i64 0) (.int .i64 0) (.int .i64 0) (.string ⟨#[]⟩) 36)
  have B0 := Lib.hid ((Below.refl w.heap.size w).alloc (Nat.le_refl _) (.cells #[.int .i64 0, .int .i64 0, .int .i64 0, .string ⟨#[]⟩] 36))
  have E0 := Lib.hid (hE.later B0.out)
  have HLT := Lib.hid (fun W => letter_any c W)
  have HDT := Lib.hid (fun W => digit_any c W)
  clear hL hsl hE
  rw [lex_cons]
  by_cases h1 : low c = true
  · rw [if_pos h1]
    have H1 := Lib.hid h1; clear h1
    have HN := Lib.hid (fun W (hW : LaidE W) => name_any s hs W)
    try rw [HL.out] at HN
    cases ho : nameL (c :: r) with
    | none =>
      rw [ho] at HN
      clear ho
      simp only [lexV] at HN
      go_enter Tryd.func11, Tryd.ntmps11
      go_wp2_with fail
      try rw [hb0]
      refine (HLT.out _).mono ?_
      rintro e w1 ⟨rfl, rfl⟩
      rw [H1.out]
      go_wp2_with fail
      refine (HN.out _ E0.out).mono ?_
      rintro e w2 ⟨rfl, hb2⟩
      have B2 := Lib.hid (B0.out.trans (hb2.mono (by simp)))
      obtain ⟨c0, c1, c2, c3, cf, cl⟩ := K0.out.later hb2
      clear hb2
      go_wp2_with fail
      refine bodyPost_ret (v := lexV 37 none) (by simp [results, Tryd.results11, go_sem, lexV, *]) rfl ⟨rfl, ?_⟩
      exact set4 B2.out (Nat.le_refl _) _ _ _ _
    | some x =>
      rw [ho] at HN
      clear ho
      simp only [lexV] at HN
      go_enter Tryd.func11, Tryd.ntmps11
      go_wp2_with fail
      try rw [hb0]
      refine (HLT.out _).mono ?_
      rintro e w1 ⟨rfl, rfl⟩
      rw [H1.out]
      go_wp2_with fail
      refine (HN.out _ E0.out).mono ?_
      rintro e w2 ⟨rfl, hb2⟩
      have B2 := Lib.hid (B0.out.trans (hb2.mono (by simp)))
      obtain ⟨c0, c1, c2, c3, cf, cl⟩ := K0.out.later hb2
      clear hb2
      go_wp2_with fail
      refine bodyPost_ret (v := lexV 37 (some x)) (by simp [results, Tryd.results11, go_sem, lexV, *]) rfl ⟨rfl, ?_⟩
      exact set4 B2.out (Nat.le_refl _) _ _ _ _
  · rw [if_neg h1]
    have H1 := Lib.hid (show low c = false by simpa using h1); clear h1
    by_cases h2 : dig c = true
    · rw [h2, Bool.true_or, if_pos rfl]
      have H3 := Lib.hid (show ¬ c.toNat = 45 by simp only [dig, Bool.and_eq_true, decide_eq_true_eq] at h2; omega)
      have H2 := Lib.hid h2; clear h2
      have HN := Lib.hid (fun W (hW : LaidE W) => number_plain s hs c r HL.out H3.out W hW)
      try rw [HL.out] at HN
      cases ho : numL (c :: r) with
      | none =>
        rw [ho] at HN
        clear ho
        simp only [lexV] at HN
        go_enter Tryd.func11, Tryd.ntmps11
        go_wp2_with fail
        try rw [hb0]
        refine (HLT.out _).mono ?_
        rintro e w1 ⟨rfl, rfl⟩
        rw [H1.out]
        go_wp2_with fail
        refine (HDT.out _).mono ?_
        rintro e w1 ⟨rfl, rfl⟩
        rw [H2.out]
        go_wp2_with fail
        refine (HN.out _ E0.out).mono ?_
        rintro e w2 ⟨rfl, hb2⟩
        have B2 := Lib.hid (B0.out.trans (hb2.mono (by simp)))
        obtain ⟨c0, c1, c2, c3, cf, cl⟩ := K0.out.later hb2
        clear hb2
        go_wp2_with fail
        refine bodyPost_ret (v := lexV 37 none) (by simp [results, Tryd.results11, go_sem, lexV, *]) rfl ⟨rfl, ?_⟩
        exact set4 B2.out (Nat.le_refl _) _ _ _ _
      | some x =>
        rw [ho] at HN
        clear ho
        simp only [lexV] at HN
        go_enter Tryd.func11, Tryd.ntmps11
        go_wp2_with fail
        try rw [hb0]
        refine (HLT.out _).mono ?_
        rintro e w1 ⟨rfl, rfl⟩
        rw [H1.out]
        go_wp2_with fail
        refine (HDT.out _).mono ?_
        rintro e w1 ⟨rfl, rfl⟩
        rw [H2.out]
        go_wp2_with fail
        refine (HN.out _ E0.out).mono ?_
        rintro e w2 ⟨rfl, hb2⟩
        have B2 := Lib.hid (B0.out.trans (hb2.mono (by simp)))
        obtain ⟨c0, c1, c2, c3, cf, cl⟩ := K0.out.later hb2
        clear hb2
        go_wp2_with fail
        refine bodyPost_ret (v := lexV 37 (some x)) (by simp [results, Tryd.results11, go_sem, lexV, *]) rfl ⟨rfl, ?_⟩
        exact set4 B2.out (Nat.le_refl _) _ _ _ _
    · have h2f : dig c = false := by simpa using h2
      rw [h2f, Bool.false_or]
      have H2 := Lib.hid h2f; clear h2 h2f
      by_cases h3 : c.toNat = 45
      · rw [if_pos (show (c.toNat == 45) = true by rw [h3]; rfl)]
        have h3z : ((c.toNat : Nat) : Int) = 45 := by omega
        rw [h3z] at HLT HDT
        have H3 := Lib.hid h3; clear h3
        have HN := Lib.hid (fun W (hW : LaidE W) => number_minus s hs c r HL.out H3.out W hW)
        try rw [HL.out] at HN
        cases ho : numL (c :: r) with
        | none =>
          rw [ho] at HN
          clear ho
          simp only [lexV] at HN
          go_enter Tryd.func11, Tryd.ntmps11
          go_wp2_with fail
          try rw [hb0]
          refine (HLT.out _).mono ?_
          rintro e w1 ⟨rfl, rfl⟩
          rw [H1.out]
          go_wp2_with fail
          refine (HDT.out _).mono ?_
          rintro e w1 ⟨rfl, rfl⟩
          rw [H2.out]
          go_wp2_with fail
          refine (HN.out _ E0.out).mono ?_
          rintro e w2 ⟨rfl, hb2⟩
          have B2 := Lib.hid (B0.out.trans (hb2.mono (by simp)))
          obtain ⟨c0, c1, c2, c3, cf, cl⟩ := K0.out.later hb2
          clear hb2
          go_wp2_with fail
          refine bodyPost_ret (v := lexV 37 none) (by simp [results, Tryd.results11, go_sem, lexV, *]) rfl ⟨rfl, ?_⟩
          exact set4 B2.out (Nat.le_refl _) _ _ _ _
        | some x =>
          rw [ho] at HN
          clear ho
          simp only [lexV] at HN
          go_enter Tryd.func11, Tryd.ntmps11
          go_wp2_with fail
          try rw [hb0]
          refine (HLT.out _).mono ?_
          rintro e w1 ⟨rfl, rfl⟩
          rw [H1.out]
          go_wp2_with fail
          refine (HDT.out _).mono ?_
          rintro e w1 ⟨rfl, rfl⟩
          rw [H2.out]
          go_wp2_with fail
          refine (HN.out _ E0.out).mono ?_
          rintro e w2 ⟨rfl, hb2⟩
          have B2 := Lib.hid (B0.out.trans (hb2.mono (by simp)))
          obtain ⟨c0, c1, c2, c3, cf, cl⟩ := K0.out.later hb2
          clear hb2
          go_wp2_with fail
          refine bodyPost_ret (v := lexV 37 (some x)) (by simp [results, Tryd.results11, go_sem, lexV, *]) rfl ⟨rfl, ?_⟩
          exact set4 B2.out (Nat.le_refl _) _ _ _ _
      · rw [if_neg (fun h => h3 (eq_of_beq h))]
        have h3z : ¬ ((c.toNat : Nat) : Int) = 45 := by omega
        have H3 := Lib.hid h3; clear h3
        by_cases h4 : c.toNat = 34
        · rw [if_pos (show (c.toNat == 34) = true by rw [h4]; rfl)]
          have h4z : ((c.toNat : Nat) : Int) = 34 := by omega
          rw [h4z] at HLT HDT
          clear h4 h3z
          have HN := Lib.hid (fun W (hW : LaidE W) => text_any s hs c r HL.out W)
          try rw [HL.out] at HN
          cases ho : textL r with
          | none =>
            rw [ho] at HN
            clear ho
            simp only [lexV] at HN
            go_enter Tryd.func11, Tryd.ntmps11
            go_wp2_with fail
            try rw [hb0]
            refine (HLT.out _).mono ?_
            rintro e w1 ⟨rfl, rfl⟩
            rw [H1.out]
            go_wp2_with fail
            refine (HDT.out _).mono ?_
            rintro e w1 ⟨rfl, rfl⟩
            rw [H2.out]
            go_wp2_with fail
            refine (HN.out _ E0.out).mono ?_
            rintro e w2 ⟨rfl, hb2⟩
            have B2 := Lib.hid (B0.out.trans (hb2.mono (by simp)))
            obtain ⟨c0, c1, c2, c3, cf, cl⟩ := K0.out.later hb2
            clear hb2
            go_wp2_with fail
            refine bodyPost_ret (v := lexV 37 none) (by simp [results, Tryd.results11, go_sem, lexV, *]) rfl ⟨rfl, ?_⟩
            exact set4 B2.out (Nat.le_refl _) _ _ _ _
          | some x =>
            rw [ho] at HN
            clear ho
            simp only [lexV] at HN
            go_enter Tryd.func11, Tryd.ntmps11
            go_wp2_with fail
            try rw [hb0]
            refine (HLT.out _).mono ?_
            rintro e w1 ⟨rfl, rfl⟩
            rw [H1.out]
            go_wp2_with fail
            refine (HDT.out _).mono ?_
            rintro e w1 ⟨rfl, rfl⟩
            rw [H2.out]
            go_wp2_with fail
            refine (HN.out _ E0.out).mono ?_
            rintro e w2 ⟨rfl, hb2⟩
            have B2 := Lib.hid (B0.out.trans (hb2.mono (by simp)))
            obtain ⟨c0, c1, c2, c3, cf, cl⟩ := K0.out.later hb2
            clear hb2
            go_wp2_with fail
            refine bodyPost_ret (v := lexV 37 (some x)) (by simp [results, Tryd.results11, go_sem, lexV, *]) rfl ⟨rfl, ?_⟩
            exact set4 B2.out (Nat.le_refl _) _ _ _ _
        · rw [if_neg (fun h => h4 (eq_of_beq h))]
          have h4z : ¬ ((c.toNat : Nat) : Int) = 34 := by omega
          clear h4
          have HN := Lib.hid (fun W (hW : LaidE W) => sign_any s h0s W)
          try rw [HL.out] at HN
          cases ho : signL (c :: r) with
          | none =>
            rw [ho] at HN
            clear ho
            simp only [lexV] at HN
            go_enter Tryd.func11, Tryd.ntmps11
            go_wp2_with fail
            try rw [hb0]
            refine (HLT.out _).mono ?_
            rintro e w1 ⟨rfl, rfl⟩
            rw [H1.out]
            go_wp2_with fail
            refine (HDT.out _).mono ?_
            rintro e w1 ⟨rfl, rfl⟩
            rw [H2.out]
            go_wp2_with fail
            refine (HN.out _ E0.out).mono ?_
            rintro e w2 ⟨rfl, hb2⟩
            have B2 := Lib.hid (B0.out.trans (hb2.mono (by simp)))
            obtain ⟨c0, c1, c2, c3, cf, cl⟩ := K0.out.later hb2
            clear hb2
            go_wp2_with fail
            refine bodyPost_ret (v := lexV 37 none) (by simp [results, Tryd.results11, go_sem, lexV, *]) rfl ⟨rfl, ?_⟩
            exact set4 B2.out (Nat.le_refl _) _ _ _ _
          | some x =>
            rw [ho] at HN
            clear ho
            simp only [lexV] at HN
            go_enter Tryd.func11, Tryd.ntmps11
            go_wp2_with fail
            try rw [hb0]
            refine (HLT.out _).mono ?_
            rintro e w1 ⟨rfl, rfl⟩
            rw [H1.out]
            go_wp2_with fail
            refine (HDT.out _).mono ?_
            rintro e w1 ⟨rfl, rfl⟩
            rw [H2.out]
            go_wp2_with fail
            refine (HN.out _ E0.out).mono ?_
            rintro e w2 ⟨rfl, hb2⟩
            have B2 := Lib.hid (B0.out.trans (hb2.mono (by simp)))
            obtain ⟨c0, c1, c2, c3, cf, cl⟩ := K0.out.later hb2
            clear hb2
            go_wp2_with fail
            refine bodyPost_ret (v := lexV 37 (some x)) (by simp [results, Tryd.results11, go_sem, lexV, *]) rfl ⟨rfl, ?_⟩
            exact set4 B2.out (Nat.le_refl _) _ _ _ _
end Go.Proofs.YtmjlfmoaoobmnaaDoor.Tk
