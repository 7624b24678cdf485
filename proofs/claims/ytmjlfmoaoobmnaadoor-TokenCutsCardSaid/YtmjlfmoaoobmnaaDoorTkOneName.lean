/-
  Contract of the document's answer one, where a name begins. Memory that was there is left as it was.
-/
import Derived.Test.YtmjlfmoaoobmnaaDoorTkLeaf
import Derived.Test.YtmjlfmoaoobmnaaDoorTkOneKit
namespace Go.Proofs.YtmjlfmoaoobmnaaDoor.Tk
open Go.RowKit
set_option linter.unusedVariables false
set_option linter.unusedSimpArgs false

set_option maxRecDepth 100000 in
set_option maxHeartbeats 8000000 in
theorem oneName (s : ByteArray) (hs : s.size ≤ 500) (a : Nat) (c : UInt8) (r : List UInt8) (hL : s.data.toList.drop a = c :: r) (h1 : low c = true) (w : World) :
    Calls Tryd.prog 13 #[.string s, .int .i64 (a : Nat)] w fun e w' => OneEnd a e (nameL (c :: r)) ∧ Below w.heap.size w w' := by
  have hlen := at_len hL
  have halt : a < s.size := by omega
  have haz : (a : Int) < (s.size : Int) := by omega
  have hb0 := at_byte hL halt
  have HL := Lib.hid hL
  have HLEN := Lib.hid hlen
  have H5 := Lib.hid hs
  clear hL hlen hs
  have H1 := Lib.hid h1
  have H2 := Lib.hid (low_not h1)
  obtain ⟨D, hD⟩ : ∃ D, D = c :: r := ⟨_, rfl⟩
  have HD := Lib.hid (show s.data.toList.drop a = D by rw [hD]; exact HL.out)
  have HDL := Lib.hid (show a + D.length = s.size by rw [hD]; exact HLEN.out)
  rw [← hD]
  clear h1 hD
  go_enter Tryd.func13, Tryd.ntmps13
  go_wp2_with fail
  refine (refLow_any c _).mono ?_
  rintro e w1 ⟨rfl, rfl⟩
  rw [H1.out]
  go_wp2_with fail
  refine (refDigit_any c _).mono ?_
  rintro e w1 ⟨rfl, rfl⟩
  rw [H2.out]
  go_wp2_with fail
  go_loopw [8] (fun va wr => OneR nmB D a (w.alloc (.cells #[.int .i64 0, .int .i64 0, .int .i64 0, .string ⟨#[]⟩] 41)) va wr) (fun va _ => s.size - natOf va)
  case atStart => exact ⟨a, 0, rfl, Lib.hid ⟨rfl, Nat.zero_le _⟩, Lib.hid (fun j c h => absurd h (Nat.not_lt_zero _)), rfl⟩
  case round =>
    obtain ⟨p, k, rfl, hpk, hall, rfl⟩ := hrel
    by_cases hlt : p < s.size
    · have hlz : (p : Int) < (s.size : Int) := by omega
      have HDK0 := byte_at HD.out hpk.out.1 hlt
      obtain ⟨d, hd⟩ : ∃ d, s[p] = d := ⟨_, rfl⟩
      rw [hd] at HDK0
      have HDK := Lib.hid HDK0
      clear HDK0
      obtain ⟨x, hx⟩ : ∃ x, low d = x := ⟨_, rfl⟩
      have HLW := Lib.hid hx
      obtain ⟨y, hy⟩ : ∃ y, dig d = y := ⟨_, rfl⟩
      have HDG := Lib.hid hy
      have HN0 : nmB d = (x || y) := by rw [nmB, hx, hy]
      clear hx hy
      cases x
      · cases y
        · have hrun := run_eq nmB D k hpk.out.2 hall.out (fun e he => by have := HDK.out.symm.trans he; cases this; exact HN0)
          clear HN0
          have hk := hpk.out
          have hk6 : k ≤ 1000000 := by have := H5.out; have := HDL.out; omega
          have HKZ := Lib.hid (And.intro (wrap_sub hk.1 hk6) (wrap_small k hk6))
          have hkz2 : (p : Int) - (a : Int) = (k : Int) := sub_is hk.1
          have hap : (a : Int) ≤ (p : Int) := by omega
          have hps : (p : Int) ≤ (s.size : Int) := by have := HDL.out; omega
          have HPL := Lib.hid (piece_list HD.out hk.1)
          have HPA := Lib.hid (piece_at HD.out hk.1)
          have HKP := Lib.hid hk.1
          have HRUN := Lib.hid hrun
          have HLK := Lib.hid (show (D.take k).length = k by have := hk.2; simp; omega)
          clear hk hrun
          by_cases h20 : k ≤ 20
          · have z20 : (k : Int) ≤ 20 := by omega
            have HN := Lib.hid (show nameL D = some ⟨if wordB (D.take k) then 2 else 1, 0, D.take k, k⟩ by unfold nameL; rw [HRUN.out, if_pos h20])
            clear h20
            by_cases e0 : ((s.extract a p).toList == [97, 110, 100]) = true
            · have HW := Lib.hid (show wordB (D.take k) = true by unfold wordB; rw [← HPL.out, e0]; simp)
              have hkz := HKZ.out.1
              have hkz3 := HKZ.out.2
              go_wp2_with fail
              refine (refLow_any d _).mono ?_
              rintro e w1 ⟨rfl, rfl⟩
              rw [HLW.out]
              go_wp2_with fail
              refine (refDigit_any d _).mono ?_
              rintro e w1 ⟨rfl, rfl⟩
              rw [HDG.out]
              go_wp2_with fail
              refine bodyPost_ret (v := .tuple #[.agg #[.int .i64 2, .int .i64 (a : Nat), .int .i64 0, .string (s.extract a p)], .int .i64 (p : Nat), .bool true]) (by simp [results, Tryd.results13, go_sem, *]) rfl ⟨?_, ?_⟩
              · rw [HN.out, HW.out, HPA.out, HKP.out]
                exact rfl
              · exact ((Below.refl _ _).alloc (Nat.le_refl _) _).alloc (by simp) _
            · have e0 := Lib.hid (show ((s.extract a p).toList == [97, 110, 100]) = false by simpa using e0)
              by_cases e1 : ((s.extract a p).toList == [111, 114]) = true
              · have HW := Lib.hid (show wordB (D.take k) = true by unfold wordB; rw [← HPL.out, e0.out, e1]; simp)
                have y0 := e0.out
                have hkz := HKZ.out.1
                have hkz3 := HKZ.out.2
                go_wp2_with fail
                refine (refLow_any d _).mono ?_
                rintro e w1 ⟨rfl, rfl⟩
                rw [HLW.out]
                go_wp2_with fail
                refine (refDigit_any d _).mono ?_
                rintro e w1 ⟨rfl, rfl⟩
                rw [HDG.out]
                go_wp2_with fail
                refine bodyPost_ret (v := .tuple #[.agg #[.int .i64 2, .int .i64 (a : Nat), .int .i64 0, .string (s.extract a p)], .int .i64 (p : Nat), .bool true]) (by simp [results, Tryd.results13, go_sem, *]) rfl ⟨?_, ?_⟩
                · rw [HN.out, HW.out, HPA.out, HKP.out]
                  exact rfl
                · exact ((Below.refl _ _).alloc (Nat.le_refl _) _).alloc (by simp) _
              · have e1 := Lib.hid (show ((s.extract a p).toList == [111, 114]) = false by simpa using e1)
                by_cases e2 : ((s.extract a p).toList == [110, 111, 116]) = true
                · have HW := Lib.hid (show wordB (D.take k) = true by unfold wordB; rw [← HPL.out, e0.out, e1.out, e2]; simp)
                  have y0 := e0.out
                  have y1 := e1.out
                  have hkz := HKZ.out.1
                  have hkz3 := HKZ.out.2
                  go_wp2_with fail
                  refine (refLow_any d _).mono ?_
                  rintro e w1 ⟨rfl, rfl⟩
                  rw [HLW.out]
                  go_wp2_with fail
                  refine (refDigit_any d _).mono ?_
                  rintro e w1 ⟨rfl, rfl⟩
                  rw [HDG.out]
                  go_wp2_with fail
                  refine bodyPost_ret (v := .tuple #[.agg #[.int .i64 2, .int .i64 (a : Nat), .int .i64 0, .string (s.extract a p)], .int .i64 (p : Nat), .bool true]) (by simp [results, Tryd.results13, go_sem, *]) rfl ⟨?_, ?_⟩
                  · rw [HN.out, HW.out, HPA.out, HKP.out]
                    exact rfl
                  · exact ((Below.refl _ _).alloc (Nat.le_refl _) _).alloc (by simp) _
                · have e2 := Lib.hid (show ((s.extract a p).toList == [110, 111, 116]) = false by simpa using e2)
                  by_cases e3 : ((s.extract a p).toList == [105, 110]) = true
                  · have HW := Lib.hid (show wordB (D.take k) = true by unfold wordB; rw [← HPL.out, e0.out, e1.out, e2.out, e3]; simp)
                    have y0 := e0.out
                    have y1 := e1.out
                    have y2 := e2.out
                    have hkz := HKZ.out.1
                    have hkz3 := HKZ.out.2
                    go_wp2_with fail
                    refine (refLow_any d _).mono ?_
                    rintro e w1 ⟨rfl, rfl⟩
                    rw [HLW.out]
                    go_wp2_with fail
                    refine (refDigit_any d _).mono ?_
                    rintro e w1 ⟨rfl, rfl⟩
                    rw [HDG.out]
                    go_wp2_with fail
                    refine bodyPost_ret (v := .tuple #[.agg #[.int .i64 2, .int .i64 (a : Nat), .int .i64 0, .string (s.extract a p)], .int .i64 (p : Nat), .bool true]) (by simp [results, Tryd.results13, go_sem, *]) rfl ⟨?_, ?_⟩
                    · rw [HN.out, HW.out, HPA.out, HKP.out]
                      exact rfl
                    · exact ((Below.refl _ _).alloc (Nat.le_refl _) _).alloc (by simp) _
                  · have e3 := Lib.hid (show ((s.extract a p).toList == [105, 110]) = false by simpa using e3)
                    by_cases e4 : ((s.extract a p).toList == [116, 114, 117, 101]) = true
                    · have HW := Lib.hid (show wordB (D.take k) = true by unfold wordB; rw [← HPL.out, e0.out, e1.out, e2.out, e3.out, e4]; simp)
                      have y0 := e0.out
                      have y1 := e1.out
                      have y2 := e2.out
                      have y3 := e3.out
                      have hkz := HKZ.out.1
                      have hkz3 := HKZ.out.2
                      go_wp2_with fail
                      refine (refLow_any d _).mono ?_
                      rintro e w1 ⟨rfl, rfl⟩
                      rw [HLW.out]
                      go_wp2_with fail
                      refine (refDigit_any d _).mono ?_
                      rintro e w1 ⟨rfl, rfl⟩
                      rw [HDG.out]
                      go_wp2_with fail
                      refine bodyPost_ret (v := .tuple #[.agg #[.int .i64 2, .int .i64 (a : Nat), .int .i64 0, .string (s.extract a p)], .int .i64 (p : Nat), .bool true]) (by simp [results, Tryd.results13, go_sem, *]) rfl ⟨?_, ?_⟩
                      · rw [HN.out, HW.out, HPA.out, HKP.out]
                        exact rfl
                      · exact ((Below.refl _ _).alloc (Nat.le_refl _) _).alloc (by simp) _
                    · have e4 := Lib.hid (show ((s.extract a p).toList == [116, 114, 117, 101]) = false by simpa using e4)
                      have HW := Lib.hid (show wordB (D.take k) = false by unfold wordB; rw [← HPL.out, e0.out, e1.out, e2.out, e3.out, e4.out]; rfl)
                      have y0 := e0.out
                      have y1 := e1.out
                      have y2 := e2.out
                      have y3 := e3.out
                      have y4 := e4.out
                      have hkz := HKZ.out.1
                      have hkz3 := HKZ.out.2
                      go_wp2_with fail
                      refine (refLow_any d _).mono ?_
                      rintro e w1 ⟨rfl, rfl⟩
                      rw [HLW.out]
                      go_wp2_with fail
                      refine (refDigit_any d _).mono ?_
                      rintro e w1 ⟨rfl, rfl⟩
                      rw [HDG.out]
                      go_wp2_with fail
                      refine bodyPost_ret (v := .tuple #[.agg #[.int .i64 1, .int .i64 (a : Nat), .int .i64 0, .string (s.extract a p)], .int .i64 (p : Nat), .bool true]) (by simp [results, Tryd.results13, go_sem, *]) rfl ⟨?_, ?_⟩
                      · rw [HN.out, HW.out, HPA.out, HKP.out]
                        exact rfl
                      · exact ((Below.refl _ _).alloc (Nat.le_refl _) _).alloc (by simp) _
          · have z20 : ¬ (k : Int) ≤ 20 := by omega
            have HN := Lib.hid (show nameL D = none by unfold nameL; rw [HRUN.out, if_neg h20])
            have y0 : ((s.extract a p).toList == [97, 110, 100]) = false := by rw [HPL.out, beq_eq_false_iff_ne]; intro e; have := HLK.out; rw [e] at this; simp at this; omega
            have y1 : ((s.extract a p).toList == [111, 114]) = false := by rw [HPL.out, beq_eq_false_iff_ne]; intro e; have := HLK.out; rw [e] at this; simp at this; omega
            have y2 : ((s.extract a p).toList == [110, 111, 116]) = false := by rw [HPL.out, beq_eq_false_iff_ne]; intro e; have := HLK.out; rw [e] at this; simp at this; omega
            have y3 : ((s.extract a p).toList == [105, 110]) = false := by rw [HPL.out, beq_eq_false_iff_ne]; intro e; have := HLK.out; rw [e] at this; simp at this; omega
            have y4 : ((s.extract a p).toList == [116, 114, 117, 101]) = false := by rw [HPL.out, beq_eq_false_iff_ne]; intro e; have := HLK.out; rw [e] at this; simp at this; omega
            clear h20
            have hkz := HKZ.out.1
            have hkz3 := HKZ.out.2
            go_wp2_with fail
            refine (refLow_any d _).mono ?_
            rintro e w1 ⟨rfl, rfl⟩
            rw [HLW.out]
            go_wp2_with fail
            refine (refDigit_any d _).mono ?_
            rintro e w1 ⟨rfl, rfl⟩
            rw [HDG.out]
            go_wp2_with fail
            refine bodyPost_ret (v := .tuple #[.agg #[.int .i64 1, .int .i64 (a : Nat), .int .i64 0, .string (s.extract a p)], .int .i64 (p : Nat), .bool false]) (by simp [results, Tryd.results13, go_sem, *]) rfl ⟨?_, ?_⟩
            · rw [HN.out]
              exact ⟨1, (a : Nat), 0, _, (p : Nat), rfl⟩
            · exact ((Below.refl _ _).alloc (Nat.le_refl _) _).alloc (by simp) _
        · have HN := Lib.hid (show nmB d = true from HN0)
          clear HN0
          go_wp2_with fail
          refine (refLow_any d _).mono ?_
          rintro e w1 ⟨rfl, rfl⟩
          rw [HLW.out]
          go_wp2_with fail
          refine (refDigit_any d _).mono ?_
          rintro e w1 ⟨rfl, rfl⟩
          rw [HDG.out]
          have HX5 := Lib.hid (wrap_succ p (by have := H5.out; omega))
          go_wp2_with fail
          go_roundw
          case rel => exact ⟨p + 1, k + 1, by first | exact congrArg (Value.int .i64) HX5.out | go_num, Lib.hid ⟨by have := hpk.out; omega, by have := hpk.out; have := HDL.out; omega⟩, Lib.hid (grown hall.out HDK.out HN.out), rfl⟩
          case measure => (simp [natOf, HX5.out]; omega)
      · have HN := Lib.hid (show nmB d = true from HN0)
        clear HN0
        go_wp2_with fail
        refine (refLow_any d _).mono ?_
        rintro e w1 ⟨rfl, rfl⟩
        rw [HLW.out]
        have HX5 := Lib.hid (wrap_succ p (by have := H5.out; omega))
        go_wp2_with fail
        go_roundw
        case rel => exact ⟨p + 1, k + 1, by first | exact congrArg (Value.int .i64) HX5.out | go_num, Lib.hid ⟨by have := hpk.out; omega, by have := hpk.out; have := HDL.out; omega⟩, Lib.hid (grown hall.out HDK.out HN.out), rfl⟩
        case measure => (simp [natOf, HX5.out]; omega)
    · have hlz : ¬ (p : Int) < (s.size : Int) := by omega
      have hrun := run_eq nmB D k hpk.out.2 hall.out (fun e he => by have h1 := (List.getElem?_eq_some_iff.1 he).1; have := hpk.out; have := HDL.out; omega)
      have hk := hpk.out
      have hk6 : k ≤ 1000000 := by have := H5.out; have := HDL.out; omega
      have HKZ := Lib.hid (And.intro (wrap_sub hk.1 hk6) (wrap_small k hk6))
      have hkz2 : (p : Int) - (a : Int) = (k : Int) := sub_is hk.1
      have hap : (a : Int) ≤ (p : Int) := by omega
      have hps : (p : Int) ≤ (s.size : Int) := by have := HDL.out; omega
      have HPL := Lib.hid (piece_list HD.out hk.1)
      have HPA := Lib.hid (piece_at HD.out hk.1)
      have HKP := Lib.hid hk.1
      have HRUN := Lib.hid hrun
      have HLK := Lib.hid (show (D.take k).length = k by have := hk.2; simp; omega)
      clear hk hrun
      by_cases h20 : k ≤ 20
      · have z20 : (k : Int) ≤ 20 := by omega
        have HN := Lib.hid (show nameL D = some ⟨if wordB (D.take k) then 2 else 1, 0, D.take k, k⟩ by unfold nameL; rw [HRUN.out, if_pos h20])
        clear h20
        by_cases e0 : ((s.extract a p).toList == [97, 110, 100]) = true
        · have HW := Lib.hid (show wordB (D.take k) = true by unfold wordB; rw [← HPL.out, e0]; simp)
          have hkz := HKZ.out.1
          have hkz3 := HKZ.out.2
          go_wp2_with fail
          refine bodyPost_ret (v := .tuple #[.agg #[.int .i64 2, .int .i64 (a : Nat), .int .i64 0, .string (s.extract a p)], .int .i64 (p : Nat), .bool true]) (by simp [results, Tryd.results13, go_sem, *]) rfl ⟨?_, ?_⟩
          · rw [HN.out, HW.out, HPA.out, HKP.out]
            exact rfl
          · exact ((Below.refl _ _).alloc (Nat.le_refl _) _).alloc (by simp) _
        · have e0 := Lib.hid (show ((s.extract a p).toList == [97, 110, 100]) = false by simpa using e0)
          by_cases e1 : ((s.extract a p).toList == [111, 114]) = true
          · have HW := Lib.hid (show wordB (D.take k) = true by unfold wordB; rw [← HPL.out, e0.out, e1]; simp)
            have y0 := e0.out
            have hkz := HKZ.out.1
            have hkz3 := HKZ.out.2
            go_wp2_with fail
            refine bodyPost_ret (v := .tuple #[.agg #[.int .i64 2, .int .i64 (a : Nat), .int .i64 0, .string (s.extract a p)], .int .i64 (p : Nat), .bool true]) (by simp [results, Tryd.results13, go_sem, *]) rfl ⟨?_, ?_⟩
            · rw [HN.out, HW.out, HPA.out, HKP.out]
              exact rfl
            · exact ((Below.refl _ _).alloc (Nat.le_refl _) _).alloc (by simp) _
          · have e1 := Lib.hid (show ((s.extract a p).toList == [111, 114]) = false by simpa using e1)
            by_cases e2 : ((s.extract a p).toList == [110, 111, 116]) = true
            · have HW := Lib.hid (show wordB (D.take k) = true by unfold wordB; rw [← HPL.out, e0.out, e1.out, e2]; simp)
              have y0 := e0.out
              have y1 := e1.out
              have hkz := HKZ.out.1
              have hkz3 := HKZ.out.2
              go_wp2_with fail
              refine bodyPost_ret (v := .tuple #[.agg #[.int .i64 2, .int .i64 (a : Nat), .int .i64 0, .string (s.extract a p)], .int .i64 (p : Nat), .bool true]) (by simp [results, Tryd.results13, go_sem, *]) rfl ⟨?_, ?_⟩
              · rw [HN.out, HW.out, HPA.out, HKP.out]
                exact rfl
              · exact ((Below.refl _ _).alloc (Nat.le_refl _) _).alloc (by simp) _
            · have e2 := Lib.hid (show ((s.extract a p).toList == [110, 111, 116]) = false by simpa using e2)
              by_cases e3 : ((s.extract a p).toList == [105, 110]) = true
              · have HW := Lib.hid (show wordB (D.take k) = true by unfold wordB; rw [← HPL.out, e0.out, e1.out, e2.out, e3]; simp)
                have y0 := e0.out
                have y1 := e1.out
                have y2 := e2.out
                have hkz := HKZ.out.1
                have hkz3 := HKZ.out.2
                go_wp2_with fail
                refine bodyPost_ret (v := .tuple #[.agg #[.int .i64 2, .int .i64 (a : Nat), .int .i64 0, .string (s.extract a p)], .int .i64 (p : Nat), .bool true]) (by simp [results, Tryd.results13, go_sem, *]) rfl ⟨?_, ?_⟩
                · rw [HN.out, HW.out, HPA.out, HKP.out]
                  exact rfl
                · exact ((Below.refl _ _).alloc (Nat.le_refl _) _).alloc (by simp) _
              · have e3 := Lib.hid (show ((s.extract a p).toList == [105, 110]) = false by simpa using e3)
                by_cases e4 : ((s.extract a p).toList == [116, 114, 117, 101]) = true
                · have HW := Lib.hid (show wordB (D.take k) = true by unfold wordB; rw [← HPL.out, e0.out, e1.out, e2.out, e3.out, e4]; simp)
                  have y0 := e0.out
                  have y1 := e1.out
                  have y2 := e2.out
                  have y3 := e3.out
                  have hkz := HKZ.out.1
                  have hkz3 := HKZ.out.2
                  go_wp2_with fail
                  refine bodyPost_ret (v := .tuple #[.agg #[.int .i64 2, .int .i64 (a : Nat), .int .i64 0, .string (s.extract a p)], .int .i64 (p : Nat), .bool true]) (by simp [results, Tryd.results13, go_sem, *]) rfl ⟨?_, ?_⟩
                  · rw [HN.out, HW.out, HPA.out, HKP.out]
                    exact rfl
                  · exact ((Below.refl _ _).alloc (Nat.le_refl _) _).alloc (by simp) _
                · have e4 := Lib.hid (show ((s.extract a p).toList == [116, 114, 117, 101]) = false by simpa using e4)
                  have HW := Lib.hid (show wordB (D.take k) = false by unfold wordB; rw [← HPL.out, e0.out, e1.out, e2.out, e3.out, e4.out]; rfl)
                  have y0 := e0.out
                  have y1 := e1.out
                  have y2 := e2.out
                  have y3 := e3.out
                  have y4 := e4.out
                  have hkz := HKZ.out.1
                  have hkz3 := HKZ.out.2
                  go_wp2_with fail
                  refine bodyPost_ret (v := .tuple #[.agg #[.int .i64 1, .int .i64 (a : Nat), .int .i64 0, .string (s.extract a p)], .int .i64 (p : Nat), .bool true]) (by simp [results, Tryd.results13, go_sem, *]) rfl ⟨?_, ?_⟩
                  · rw [HN.out, HW.out, HPA.out, HKP.out]
                    exact rfl
                  · exact ((Below.refl _ _).alloc (Nat.le_refl _) _).alloc (by simp) _
      · have z20 : ¬ (k : Int) ≤ 20 := by omega
        have HN := Lib.hid (show nameL D = none by unfold nameL; rw [HRUN.out, if_neg h20])
        have y0 : ((s.extract a p).toList == [97, 110, 100]) = false := by rw [HPL.out, beq_eq_false_iff_ne]; intro e; have := HLK.out; rw [e] at this; simp at this; omega
        have y1 : ((s.extract a p).toList == [111, 114]) = false := by rw [HPL.out, beq_eq_false_iff_ne]; intro e; have := HLK.out; rw [e] at this; simp at this; omega
        have y2 : ((s.extract a p).toList == [110, 111, 116]) = false := by rw [HPL.out, beq_eq_false_iff_ne]; intro e; have := HLK.out; rw [e] at this; simp at this; omega
        have y3 : ((s.extract a p).toList == [105, 110]) = false := by rw [HPL.out, beq_eq_false_iff_ne]; intro e; have := HLK.out; rw [e] at this; simp at this; omega
        have y4 : ((s.extract a p).toList == [116, 114, 117, 101]) = false := by rw [HPL.out, beq_eq_false_iff_ne]; intro e; have := HLK.out; rw [e] at this; simp at this; omega
        clear h20
        have hkz := HKZ.out.1
        have hkz3 := HKZ.out.2
        go_wp2_with fail
        refine bodyPost_ret (v := .tuple #[.agg #[.int .i64 1, .int .i64 (a : Nat), .int .i64 0, .string (s.extract a p)], .int .i64 (p : Nat), .bool false]) (by simp [results, Tryd.results13, go_sem, *]) rfl ⟨?_, ?_⟩
        · rw [HN.out]
          exact ⟨1, (a : Nat), 0, _, (p : Nat), rfl⟩
        · exact ((Below.refl _ _).alloc (Nat.le_refl _) _).alloc (by simp) _
end Go.Proofs.YtmjlfmoaoobmnaaDoor.Tk
