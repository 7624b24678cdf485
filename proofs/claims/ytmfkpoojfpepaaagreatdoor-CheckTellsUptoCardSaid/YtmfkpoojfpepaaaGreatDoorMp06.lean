/-
  Contract of the document's answer one, where a sign begins, or nothing. Memory that was there is left as it was.
-/
import Derived.Test.YtmfkpoojfpepaaaGreatDoorMp03
import Derived.Test.YtmfkpoojfpepaaaGreatDoorMp05
import Derived.Deep.RegionHeldLaw
/-
  Contract of the document's answer one, where a text begins. Memory that was there is left as it was.
-/
namespace Go.Proofs.YtmfkpoojfpepaaaGreatDoor.Tk
open Go.RowKit
set_option linter.unusedVariables false
set_option linter.unusedSimpArgs false

theorem inB_iff (d : UInt8) : inB d = (decide (32 ≤ d.toNat) && decide (d.toNat ≤ 126) && !(d.toNat == 34)) := rfl
set_option maxRecDepth 100000 in
set_option maxHeartbeats 8000000 in
theorem oneText (s : ByteArray) (hs : s.size ≤ 500) (a : Nat) (c : UInt8) (r : List UInt8) (hL : s.data.toList.drop a = c :: r) (h1 : low c = false) (h2 : dig c = false) (hc : c.toNat = 34) (w : World) :
    Calls Tryz.prog 58 #[.string s, .int .i64 (a : Nat)] w fun e w' => OneEnd a e (textL r) ∧ Below w.heap.size w w' := by
  have hlen := at_len hL
  have halt : a < s.size := by omega
  have haz : (a : Int) < (s.size : Int) := by omega
  have hb0 := at_byte hL halt
  have HL := Lib.hid hL
  have HLEN := Lib.hid hlen
  have H5 := Lib.hid hs
  clear hL hlen hs
  have H1 := Lib.hid h1
  have H2 := Lib.hid h2
  have hcz : ((c.toNat : Nat) : Int) = 34 := by omega
  have HCZ := Lib.hid hcz
  obtain ⟨f, hf⟩ : ∃ f : Nat, f = a + 1 := ⟨_, rfl⟩
  have HFF := Lib.hid (wrap_small f (by have := H5.out; have := HLEN.out; omega))
  have hfz2 : (a : Int) + 1 = (f : Int) := by omega
  have HD := Lib.hid (show s.data.toList.drop f = r by rw [hf, ← List.drop_drop, HL.out]; rfl)
  have HDL := Lib.hid (show f + r.length = s.size by have := HLEN.out; omega)
  have HF := Lib.hid hf
  clear h1 h2 hc hf
  have CL := Lib.hid (fun W => refLow_any c W)
  have CD := Lib.hid (fun W => refDigit_any c W)
  rw [hcz, H1.out] at CL
  rw [hcz, H2.out] at CD
  have hff := HFF.out
  go_enter Tryz.func58, Tryz.ntmps58
  go_wp2_with fail
  refine (CL.out _).mono ?_
  rintro e w1 ⟨rfl, rfl⟩
  go_wp2_with fail
  refine (CD.out _).mono ?_
  rintro e w1 ⟨rfl, rfl⟩
  go_wp2_with fail
  clear hff
  go_loopw [8] (fun va wr => OneR inB r f (w.alloc (.cells #[.int .i64 0, .int .i64 0, .int .i64 0, .string ⟨#[]⟩] 82)) va wr) (fun va _ => s.size - natOf va)
  case atStart => exact ⟨f, 0, by first | rfl | exact congrArg (Value.int .i64) HFF.out, Lib.hid ⟨rfl, Nat.zero_le _⟩, Lib.hid (fun j c h => absurd h (Nat.not_lt_zero _)), rfl⟩
  case round =>
    obtain ⟨p, k, rfl, hpk, hall, rfl⟩ := hrel
    by_cases hlt : p < s.size
    · have hlz : (p : Int) < (s.size : Int) := by omega
      have HDK0 := byte_at HD.out hpk.out.1 hlt
      obtain ⟨d, hd⟩ : ∃ d, s[p] = d := ⟨_, rfl⟩
      rw [hd] at HDK0
      have HDK := Lib.hid HDK0
      clear HDK0
      by_cases g1 : 32 ≤ d.toNat
      · have y1 : (32 : Int) ≤ ((d.toNat : Nat) : Int) := by omega
        by_cases g2 : d.toNat ≤ 126
        · have y2 : ((d.toNat : Nat) : Int) ≤ 126 := by omega
          by_cases g3 : d.toNat = 34
          · have y3 : (((d.toNat : Nat) : Int) == 34) = true := by rw [beq_iff_eq]; omega
            have y3b : ((d.toNat : Nat) : Int) = 34 := by omega
            have HIN := Lib.hid (show inB d = false by rw [inB_iff, g3]; simp)
            have HD34 := Lib.hid (show d.toNat = (34 : UInt8).toNat from g3)
            clear g1 g2 g3
            have hrun := run_eq inB r k hpk.out.2 hall.out (fun e he => by have := HDK.out.symm.trans he; cases this; exact HIN.out)
            have hk := hpk.out
            have HF2 := HF.out
            have z1 : ((p : Int) == (s.size : Int)) = false := by rw [beq_eq_false_iff_ne]; omega
            obtain ⟨k1, hk1⟩ : ∃ k1 : Nat, k1 = k + 1 := ⟨_, rfl⟩
            have hk6 : k1 ≤ 1000000 := by have := H5.out; have := HDL.out; omega
            have U1 := Lib.hid (wrap_small k1 hk6)
            have hpa : p = a + k1 := by omega
            have u2 : (p : Int) - (a : Int) = (k1 : Int) := sub_is hpa
            have U3 := Lib.hid (wrap_small k (by omega))
            have u4 : (k1 : Int) - 1 = (k : Int) := by omega
            clear hpa hk6
            by_cases h200 : k ≤ 200
            · have z2 : ¬ (200 : Int) < (k : Int) := by omega
              have HN := Lib.hid (show textL r = some ⟨4, 0, r.take k, k + 2⟩ by unfold textL; rw [hrun, if_pos ⟨h200, by rw [HDK.out, show d = 34 from UInt8.toNat_inj.1 HD34.out]⟩])
              have HPA := Lib.hid (piece_at HD.out hk.1)
              have HPZ := Lib.hid (show p + 1 = a + (k + 2) by omega)
              have V2 := Lib.hid (i64_small f (by have := H5.out; omega))
              have V3 := Lib.hid (i64_succ p (by have := H5.out; omega))
              have hfp : (f : Int) ≤ (p : Int) := by omega
              have hps : (p : Int) ≤ (s.size : Int) := by omega
              clear hrun hk HF2 h200 hk1
              have u1 := U1.out
              have u3 := U3.out
              have v2 := V2.out
              have v3 := V3.out
              go_wp2_with fail
              go_region_held_law (fun _ => True) (trivial) (fail)
              all_goals
                go_wp2_with fail
                refine bodyPost_ret (v := .tuple #[.agg #[.int .i64 4, .int .i64 (a : Nat), .int .i64 0, .string (s.extract f p)], .int .i64 ((p + 1 : Nat) : Int), .bool true]) (by simp [results, Tryz.results58, go_sem, *]) rfl ⟨?_, ?_⟩
                · rw [HN.out, HPA.out, HPZ.out]
                  exact rfl
                · exact ((Below.refl _ _).alloc (Nat.le_refl _) _).drew
            · have z2 : (200 : Int) < (k : Int) := by omega
              have HN := Lib.hid (show textL r = none by unfold textL; rw [hrun, if_neg (fun x => h200 x.1)])
              clear hrun hk HF2 h200 hk1
              have u1 := U1.out
              have u3 := U3.out
              go_wp2_with fail
              refine bodyPost_ret (v := .tuple #[.agg #[.int .i64 0, .int .i64 0, .int .i64 0, .string ⟨#[]⟩], .int .i64 (p : Nat), .bool false]) (by simp [results, Tryz.results58, go_sem, *]) rfl ⟨?_, ?_⟩
              · rw [HN.out]
                exact ⟨0, 0, 0, _, (p : Nat), rfl⟩
              · exact (Below.refl _ _).alloc (Nat.le_refl _) _
          · have y3 : (((d.toNat : Nat) : Int) == 34) = false := by rw [beq_eq_false_iff_ne]; omega
            have y3b : ¬ ((d.toNat : Nat) : Int) = 34 := by omega
            have HN := Lib.hid (show inB d = true by rw [inB_iff, decide_eq_true g1, decide_eq_true g2]; simp [g3])
            clear g1 g2 g3
            have HX5 := Lib.hid (wrap_succ p (by have := H5.out; omega))
            go_wp2_with fail
            go_roundw
            case rel => exact ⟨p + 1, k + 1, by first | exact congrArg (Value.int .i64) HX5.out | go_num, Lib.hid ⟨by have := hpk.out; omega, by have := hpk.out; have := HDL.out; omega⟩, Lib.hid (grown hall.out HDK.out HN.out), rfl⟩
            case measure => (simp [natOf, HX5.out]; omega)
        · have y2 : ¬ ((d.toNat : Nat) : Int) ≤ 126 := by omega
          have y3 : (((d.toNat : Nat) : Int) == 34) = false := by rw [beq_eq_false_iff_ne]; omega
          have HIN := Lib.hid (show inB d = false by rw [inB_iff, decide_eq_false g2]; simp)
          have HNE := Lib.hid (show d ≠ 34 from fun e => by rw [e] at g2; exact g2 (by decide))
          clear g1 g2
          have hrun := run_eq inB r k hpk.out.2 hall.out (fun e he => by have := HDK.out.symm.trans he; cases this; exact HIN.out)
          have hk := hpk.out
          have HF2 := HF.out
          have z1 : ((p : Int) == (s.size : Int)) = false := by rw [beq_eq_false_iff_ne]; omega
          obtain ⟨k1, hk1⟩ : ∃ k1 : Nat, k1 = k + 1 := ⟨_, rfl⟩
          have hk6 : k1 ≤ 1000000 := by have := H5.out; have := HDL.out; omega
          have U1 := Lib.hid (wrap_small k1 hk6)
          have hpa : p = a + k1 := by omega
          have u2 : (p : Int) - (a : Int) = (k1 : Int) := sub_is hpa
          have U3 := Lib.hid (wrap_small k (by omega))
          have u4 : (k1 : Int) - 1 = (k : Int) := by omega
          clear hpa hk6
          by_cases h200 : k ≤ 200
          · have z2 : ¬ (200 : Int) < (k : Int) := by omega
            have V2 := Lib.hid (i64_small f (by have := H5.out; omega))
            have V3 := Lib.hid (i64_succ p (by have := H5.out; omega))
            have HN := Lib.hid (show textL r = none by unfold textL; rw [hrun, if_neg]; rintro ⟨_, x⟩; rw [HDK.out] at x; cases x; exact HNE.out rfl)
            have hfp : (f : Int) ≤ (p : Int) := by omega
            have hps : (p : Int) ≤ (s.size : Int) := by omega
            clear hrun hk HF2 h200 hk1
            have u1 := U1.out
            have u3 := U3.out
            have v2 := V2.out
            have v3 := V3.out
            go_wp2_with fail
            go_region_held_law (fun _ => True) (trivial) (fail)
            all_goals
              go_wp2_with fail
              refine bodyPost_ret (v := .tuple #[.agg #[.int .i64 4, .int .i64 (a : Nat), .int .i64 0, .string (s.extract f p)], .int .i64 ((p : Nat) + 1 : Int), .bool false]) (by simp [results, Tryz.results58, go_sem, *]) rfl ⟨?_, ?_⟩
              · rw [HN.out]
                exact ⟨4, (a : Nat), 0, _, _, rfl⟩
              · exact ((Below.refl _ _).alloc (Nat.le_refl _) _).drew
          · have z2 : (200 : Int) < (k : Int) := by omega
            have HN := Lib.hid (show textL r = none by unfold textL; rw [hrun, if_neg (fun x => h200 x.1)])
            clear hrun hk HF2 h200 hk1
            have u1 := U1.out
            have u3 := U3.out
            go_wp2_with fail
            refine bodyPost_ret (v := .tuple #[.agg #[.int .i64 0, .int .i64 0, .int .i64 0, .string ⟨#[]⟩], .int .i64 (p : Nat), .bool false]) (by simp [results, Tryz.results58, go_sem, *]) rfl ⟨?_, ?_⟩
            · rw [HN.out]
              exact ⟨0, 0, 0, _, (p : Nat), rfl⟩
            · exact (Below.refl _ _).alloc (Nat.le_refl _) _
      · have y1 : ¬ (32 : Int) ≤ ((d.toNat : Nat) : Int) := by omega
        have y3 : (((d.toNat : Nat) : Int) == 34) = false := by rw [beq_eq_false_iff_ne]; omega
        have HIN := Lib.hid (show inB d = false by rw [inB_iff, decide_eq_false g1]; simp)
        have HNE := Lib.hid (show d ≠ 34 from fun e => by rw [e] at g1; exact g1 (by decide))
        clear g1
        have hrun := run_eq inB r k hpk.out.2 hall.out (fun e he => by have := HDK.out.symm.trans he; cases this; exact HIN.out)
        have hk := hpk.out
        have HF2 := HF.out
        have z1 : ((p : Int) == (s.size : Int)) = false := by rw [beq_eq_false_iff_ne]; omega
        obtain ⟨k1, hk1⟩ : ∃ k1 : Nat, k1 = k + 1 := ⟨_, rfl⟩
        have hk6 : k1 ≤ 1000000 := by have := H5.out; have := HDL.out; omega
        have U1 := Lib.hid (wrap_small k1 hk6)
        have hpa : p = a + k1 := by omega
        have u2 : (p : Int) - (a : Int) = (k1 : Int) := sub_is hpa
        have U3 := Lib.hid (wrap_small k (by omega))
        have u4 : (k1 : Int) - 1 = (k : Int) := by omega
        clear hpa hk6
        by_cases h200 : k ≤ 200
        · have z2 : ¬ (200 : Int) < (k : Int) := by omega
          have V2 := Lib.hid (i64_small f (by have := H5.out; omega))
          have V3 := Lib.hid (i64_succ p (by have := H5.out; omega))
          have HN := Lib.hid (show textL r = none by unfold textL; rw [hrun, if_neg]; rintro ⟨_, x⟩; rw [HDK.out] at x; cases x; exact HNE.out rfl)
          have hfp : (f : Int) ≤ (p : Int) := by omega
          have hps : (p : Int) ≤ (s.size : Int) := by omega
          clear hrun hk HF2 h200 hk1
          have u1 := U1.out
          have u3 := U3.out
          have v2 := V2.out
          have v3 := V3.out
          go_wp2_with fail
          go_region_held_law (fun _ => True) (trivial) (fail)
          all_goals
            go_wp2_with fail
            refine bodyPost_ret (v := .tuple #[.agg #[.int .i64 4, .int .i64 (a : Nat), .int .i64 0, .string (s.extract f p)], .int .i64 ((p : Nat) + 1 : Int), .bool false]) (by simp [results, Tryz.results58, go_sem, *]) rfl ⟨?_, ?_⟩
            · rw [HN.out]
              exact ⟨4, (a : Nat), 0, _, _, rfl⟩
            · exact ((Below.refl _ _).alloc (Nat.le_refl _) _).drew
        · have z2 : (200 : Int) < (k : Int) := by omega
          have HN := Lib.hid (show textL r = none by unfold textL; rw [hrun, if_neg (fun x => h200 x.1)])
          clear hrun hk HF2 h200 hk1
          have u1 := U1.out
          have u3 := U3.out
          go_wp2_with fail
          refine bodyPost_ret (v := .tuple #[.agg #[.int .i64 0, .int .i64 0, .int .i64 0, .string ⟨#[]⟩], .int .i64 (p : Nat), .bool false]) (by simp [results, Tryz.results58, go_sem, *]) rfl ⟨?_, ?_⟩
          · rw [HN.out]
            exact ⟨0, 0, 0, _, (p : Nat), rfl⟩
          · exact (Below.refl _ _).alloc (Nat.le_refl _) _
    · have hlz : ¬ (p : Int) < (s.size : Int) := by omega
      have hrun := run_eq inB r k hpk.out.2 hall.out (fun e he => by have h1 := (List.getElem?_eq_some_iff.1 he).1; have := hpk.out; have := HDL.out; omega)
      have HN := Lib.hid (show textL r = none by unfold textL; rw [hrun, if_neg]; rintro ⟨_, x⟩; have h1 := (List.getElem?_eq_some_iff.1 x).1; have := hpk.out; have := HDL.out; omega)
      have z1 : ((p : Int) == (s.size : Int)) = true := by rw [beq_iff_eq]; have := hpk.out; have := HDL.out; omega
      clear hrun
      go_wp2_with fail
      refine bodyPost_ret (v := .tuple #[.agg #[.int .i64 0, .int .i64 0, .int .i64 0, .string ⟨#[]⟩], .int .i64 (p : Nat), .bool false]) (by simp [results, Tryz.results58, go_sem, *]) rfl ⟨?_, ?_⟩
      · rw [HN.out]
        exact ⟨0, 0, 0, _, (p : Nat), rfl⟩
      · exact (Below.refl _ _).alloc (Nat.le_refl _) _
end Go.Proofs.YtmfkpoojfpepaaaGreatDoor.Tk
namespace Go.Proofs.YtmfkpoojfpepaaaGreatDoor.Tk
open Go.RowKit
set_option linter.unusedVariables false
set_option linter.unusedSimpArgs false

set_option maxRecDepth 100000 in
set_option maxHeartbeats 8000000 in
theorem oneSign (s : ByteArray) (hs : s.size ≤ 500) (a : Nat) (c : UInt8) (r : List UInt8) (hL : s.data.toList.drop a = c :: r) (h1 : low c = false) (h2 : dig c = false) (h45 : ¬ c.toNat = 45) (h34 : ¬ c.toNat = 34) (w : World) :
    Calls Tryz.prog 58 #[.string s, .int .i64 (a : Nat)] w fun e w' => OneEnd a e (signL (c :: r)) ∧ Below w.heap.size w w' := by
  have hlen := at_len hL
  have halt : a < s.size := by omega
  have haz : (a : Int) < (s.size : Int) := by omega
  have hb0 := at_byte hL halt
  have HL := Lib.hid hL
  have HLEN := Lib.hid hlen
  have H5 := Lib.hid hs
  clear hL hlen hs
  have H1 := Lib.hid h1
  have H2 := Lib.hid h2
  have q1 : ((c.toNat : Nat) : Int) ≠ 45 := by omega
  have q2 : ((c.toNat : Nat) : Int) ≠ 34 := by omega
  have q3 : (((c.toNat : Nat) : Int) == 45) = false := by rw [beq_eq_false_iff_ne]; exact q1
  have q4 : (((c.toNat : Nat) : Int) == 34) = false := by rw [beq_eq_false_iff_ne]; exact q2
  have w1z : wrap64 ((a + 1 : Nat) : Int) = ((a + 1 : Nat) : Int) := by have := H5.out; unfold wrap64; omega
  have w2z : wrap64 ((a + 2 : Nat) : Int) = ((a + 2 : Nat) : Int) := by have := H5.out; unfold wrap64; omega
  have w3z : (a : Int) + 1 = ((a + 1 : Nat) : Int) := by omega
  have w4z : (a : Int) + 2 = ((a + 2 : Nat) : Int) := by omega
  obtain ⟨a1, ha1⟩ : ∃ a1 : Nat, a1 = a + 1 := ⟨_, rfl⟩
  obtain ⟨a2, ha2⟩ : ∃ a2 : Nat, a2 = a + 2 := ⟨_, rfl⟩
  rw [← ha1] at w1z w3z
  rw [← ha2] at w2z w4z
  have HA := Lib.hid (And.intro ha1 ha2)
  have HX := Lib.hid (show (s.extract a a1).toList = [c] by rw [piece_list HL.out (show a1 = a + 1 from ha1)]; rfl)
  have HXA := Lib.hid (show s.extract a a1 = ⟨([c] : List UInt8).toArray⟩ by rw [piece_at HL.out (show a1 = a + 1 from ha1)]; rfl)
  have l1 : (a : Int) ≤ (a1 : Int) := by omega
  have l2 : (a1 : Int) ≤ (s.size : Int) := by omega
  clear h1 h2 h45 h34 ha1 ha2 q1 q2
  by_cases h2 : a1 < s.size
  · have m1 : (a1 : Int) < (s.size : Int) := by omega
    have m2 : (a : Int) ≤ (a2 : Int) := by have := HA.out; omega
    have m3 : (a2 : Int) ≤ (s.size : Int) := by have := HA.out; omega
    have hr1 : 1 ≤ r.length := by have := HLEN.out; have := HA.out; omega
    have HX2 := Lib.hid (piece_list HL.out HA.out.2)
    have HXB := Lib.hid (piece_at HL.out HA.out.2)
    obtain ⟨b, hb⟩ : ∃ b, (c :: r).take 2 = [c, b] := by
      match r, hr1 with
      | b :: _, _ => exact ⟨b, rfl⟩
    have HT2 := Lib.hid hb
    clear hb h2
    by_cases t0 : ((s.extract a a2).toList == [60, 61]) = true
    · have hc : (c :: r).take 2 = [60, 61] := by rw [HX2.out, beq_iff_eq] at t0; exact t0
      have HN := Lib.hid (show signL (c :: r) = some ⟨5, 0, (c :: r).take 2, 2⟩ by unfold signL; rw [if_pos ⟨by simp only [List.length_cons]; omega, by rw [hc]; rfl⟩])
      clear hc
      go_enter Tryz.func58, Tryz.ntmps58
      go_wp2_with fail
      refine (refLow_any c _).mono ?_
      rintro e w1 ⟨rfl, rfl⟩
      rw [H1.out]
      go_wp2_with fail
      refine (refDigit_any c _).mono ?_
      rintro e w1 ⟨rfl, rfl⟩
      rw [H2.out]
      go_wp2_with fail
      refine bodyPost_ret (v := .tuple #[.agg #[.int .i64 5, .int .i64 (a : Nat), .int .i64 0, .string (s.extract a a2)], .int .i64 (a2 : Nat), .bool true]) (by simp [results, Tryz.results58, go_sem, *]) rfl ⟨?_, ?_⟩
      · rw [HN.out, HXB.out, HA.out.2]
        exact rfl
      · exact (Below.refl _ _).alloc (Nat.le_refl _) _
    · have t0 := Lib.hid (show ((s.extract a a2).toList == [60, 61]) = false by simpa using t0)
      by_cases t1 : ((s.extract a a2).toList == [33, 61]) = true
      · have hc : (c :: r).take 2 = [33, 61] := by rw [HX2.out, beq_iff_eq] at t1; exact t1
        have HN := Lib.hid (show signL (c :: r) = some ⟨5, 0, (c :: r).take 2, 2⟩ by unfold signL; rw [if_pos ⟨by simp only [List.length_cons]; omega, by rw [hc]; rfl⟩])
        clear hc
        have z0 := t0.out
        go_enter Tryz.func58, Tryz.ntmps58
        go_wp2_with fail
        refine (refLow_any c _).mono ?_
        rintro e w1 ⟨rfl, rfl⟩
        rw [H1.out]
        go_wp2_with fail
        refine (refDigit_any c _).mono ?_
        rintro e w1 ⟨rfl, rfl⟩
        rw [H2.out]
        go_wp2_with fail
        refine bodyPost_ret (v := .tuple #[.agg #[.int .i64 5, .int .i64 (a : Nat), .int .i64 0, .string (s.extract a a2)], .int .i64 (a2 : Nat), .bool true]) (by simp [results, Tryz.results58, go_sem, *]) rfl ⟨?_, ?_⟩
        · rw [HN.out, HXB.out, HA.out.2]
          exact rfl
        · exact (Below.refl _ _).alloc (Nat.le_refl _) _
      · have t1 := Lib.hid (show ((s.extract a a2).toList == [33, 61]) = false by simpa using t1)
        by_cases t2 : ((s.extract a a2).toList == [62, 61]) = true
        · have hc : (c :: r).take 2 = [62, 61] := by rw [HX2.out, beq_iff_eq] at t2; exact t2
          have HN := Lib.hid (show signL (c :: r) = some ⟨5, 0, (c :: r).take 2, 2⟩ by unfold signL; rw [if_pos ⟨by simp only [List.length_cons]; omega, by rw [hc]; rfl⟩])
          clear hc
          have z0 := t0.out
          have z1 := t1.out
          go_enter Tryz.func58, Tryz.ntmps58
          go_wp2_with fail
          refine (refLow_any c _).mono ?_
          rintro e w1 ⟨rfl, rfl⟩
          rw [H1.out]
          go_wp2_with fail
          refine (refDigit_any c _).mono ?_
          rintro e w1 ⟨rfl, rfl⟩
          rw [H2.out]
          go_wp2_with fail
          refine bodyPost_ret (v := .tuple #[.agg #[.int .i64 5, .int .i64 (a : Nat), .int .i64 0, .string (s.extract a a2)], .int .i64 (a2 : Nat), .bool true]) (by simp [results, Tryz.results58, go_sem, *]) rfl ⟨?_, ?_⟩
          · rw [HN.out, HXB.out, HA.out.2]
            exact rfl
          · exact (Below.refl _ _).alloc (Nat.le_refl _) _
        · have t2 := Lib.hid (show ((s.extract a a2).toList == [62, 61]) = false by simpa using t2)
          by_cases t3 : ((s.extract a a2).toList == [94, 61]) = true
          · have hc : (c :: r).take 2 = [94, 61] := by rw [HX2.out, beq_iff_eq] at t3; exact t3
            have HN := Lib.hid (show signL (c :: r) = some ⟨5, 0, (c :: r).take 2, 2⟩ by unfold signL; rw [if_pos ⟨by simp only [List.length_cons]; omega, by rw [hc]; rfl⟩])
            clear hc
            have z0 := t0.out
            have z1 := t1.out
            have z2 := t2.out
            go_enter Tryz.func58, Tryz.ntmps58
            go_wp2_with fail
            refine (refLow_any c _).mono ?_
            rintro e w1 ⟨rfl, rfl⟩
            rw [H1.out]
            go_wp2_with fail
            refine (refDigit_any c _).mono ?_
            rintro e w1 ⟨rfl, rfl⟩
            rw [H2.out]
            go_wp2_with fail
            refine bodyPost_ret (v := .tuple #[.agg #[.int .i64 5, .int .i64 (a : Nat), .int .i64 0, .string (s.extract a a2)], .int .i64 (a2 : Nat), .bool true]) (by simp [results, Tryz.results58, go_sem, *]) rfl ⟨?_, ?_⟩
            · rw [HN.out, HXB.out, HA.out.2]
              exact rfl
            · exact (Below.refl _ _).alloc (Nat.le_refl _) _
          · have t3 := Lib.hid (show ((s.extract a a2).toList == [94, 61]) = false by simpa using t3)
            have z0 := t0.out
            have z1 := t1.out
            have z2 := t2.out
            have z3 := t3.out
            have HT := Lib.hid (show ¬ (2 ≤ (c :: r).length ∧ signB ((c :: r).take 2) = true) by rintro ⟨_, x⟩; rw [HT2.out] at x; unfold signB at x; rw [← HT2.out] at x; simp only [← HX2.out, t0.out, t1.out, t2.out, t3.out] at x; rw [HX2.out, HT2.out] at x; simp at x)
            by_cases e0 : ((s.extract a a1).toList == [40]) = true
            · have hc : c = 40 := by rw [HX.out, beq_iff_eq] at e0; simpa using e0
              have HN := Lib.hid (show signL (c :: r) = some ⟨5, 0, [c], 1⟩ by unfold signL; rw [if_neg HT.out, List.take_succ_cons, List.take_zero, if_pos (by rw [hc]; rfl)])
              clear hc
              go_enter Tryz.func58, Tryz.ntmps58
              go_wp2_with fail
              refine (refLow_any c _).mono ?_
              rintro e w1 ⟨rfl, rfl⟩
              rw [H1.out]
              go_wp2_with fail
              refine (refDigit_any c _).mono ?_
              rintro e w1 ⟨rfl, rfl⟩
              rw [H2.out]
              go_wp2_with fail
              refine bodyPost_ret (v := .tuple #[.agg #[.int .i64 5, .int .i64 (a : Nat), .int .i64 0, .string (s.extract a a1)], .int .i64 (a1 : Nat), .bool true]) (by simp [results, Tryz.results58, go_sem, *]) rfl ⟨?_, ?_⟩
              · rw [HN.out, HXA.out, HA.out.1]
                exact rfl
              · exact (Below.refl _ _).alloc (Nat.le_refl _) _
            · have e0 := Lib.hid (show ((s.extract a a1).toList == [40]) = false by simpa using e0)
              by_cases e1 : ((s.extract a a1).toList == [41]) = true
              · have hc : c = 41 := by rw [HX.out, beq_iff_eq] at e1; simpa using e1
                have HN := Lib.hid (show signL (c :: r) = some ⟨5, 0, [c], 1⟩ by unfold signL; rw [if_neg HT.out, List.take_succ_cons, List.take_zero, if_pos (by rw [hc]; rfl)])
                clear hc
                have y0 := e0.out
                go_enter Tryz.func58, Tryz.ntmps58
                go_wp2_with fail
                refine (refLow_any c _).mono ?_
                rintro e w1 ⟨rfl, rfl⟩
                rw [H1.out]
                go_wp2_with fail
                refine (refDigit_any c _).mono ?_
                rintro e w1 ⟨rfl, rfl⟩
                rw [H2.out]
                go_wp2_with fail
                refine bodyPost_ret (v := .tuple #[.agg #[.int .i64 5, .int .i64 (a : Nat), .int .i64 0, .string (s.extract a a1)], .int .i64 (a1 : Nat), .bool true]) (by simp [results, Tryz.results58, go_sem, *]) rfl ⟨?_, ?_⟩
                · rw [HN.out, HXA.out, HA.out.1]
                  exact rfl
                · exact (Below.refl _ _).alloc (Nat.le_refl _) _
              · have e1 := Lib.hid (show ((s.extract a a1).toList == [41]) = false by simpa using e1)
                by_cases e2 : ((s.extract a a1).toList == [44]) = true
                · have hc : c = 44 := by rw [HX.out, beq_iff_eq] at e2; simpa using e2
                  have HN := Lib.hid (show signL (c :: r) = some ⟨5, 0, [c], 1⟩ by unfold signL; rw [if_neg HT.out, List.take_succ_cons, List.take_zero, if_pos (by rw [hc]; rfl)])
                  clear hc
                  have y0 := e0.out
                  have y1 := e1.out
                  go_enter Tryz.func58, Tryz.ntmps58
                  go_wp2_with fail
                  refine (refLow_any c _).mono ?_
                  rintro e w1 ⟨rfl, rfl⟩
                  rw [H1.out]
                  go_wp2_with fail
                  refine (refDigit_any c _).mono ?_
                  rintro e w1 ⟨rfl, rfl⟩
                  rw [H2.out]
                  go_wp2_with fail
                  refine bodyPost_ret (v := .tuple #[.agg #[.int .i64 5, .int .i64 (a : Nat), .int .i64 0, .string (s.extract a a1)], .int .i64 (a1 : Nat), .bool true]) (by simp [results, Tryz.results58, go_sem, *]) rfl ⟨?_, ?_⟩
                  · rw [HN.out, HXA.out, HA.out.1]
                    exact rfl
                  · exact (Below.refl _ _).alloc (Nat.le_refl _) _
                · have e2 := Lib.hid (show ((s.extract a a1).toList == [44]) = false by simpa using e2)
                  by_cases e3 : ((s.extract a a1).toList == [60]) = true
                  · have hc : c = 60 := by rw [HX.out, beq_iff_eq] at e3; simpa using e3
                    have HN := Lib.hid (show signL (c :: r) = some ⟨5, 0, [c], 1⟩ by unfold signL; rw [if_neg HT.out, List.take_succ_cons, List.take_zero, if_pos (by rw [hc]; rfl)])
                    clear hc
                    have y0 := e0.out
                    have y1 := e1.out
                    have y2 := e2.out
                    go_enter Tryz.func58, Tryz.ntmps58
                    go_wp2_with fail
                    refine (refLow_any c _).mono ?_
                    rintro e w1 ⟨rfl, rfl⟩
                    rw [H1.out]
                    go_wp2_with fail
                    refine (refDigit_any c _).mono ?_
                    rintro e w1 ⟨rfl, rfl⟩
                    rw [H2.out]
                    go_wp2_with fail
                    refine bodyPost_ret (v := .tuple #[.agg #[.int .i64 5, .int .i64 (a : Nat), .int .i64 0, .string (s.extract a a1)], .int .i64 (a1 : Nat), .bool true]) (by simp [results, Tryz.results58, go_sem, *]) rfl ⟨?_, ?_⟩
                    · rw [HN.out, HXA.out, HA.out.1]
                      exact rfl
                    · exact (Below.refl _ _).alloc (Nat.le_refl _) _
                  · have e3 := Lib.hid (show ((s.extract a a1).toList == [60]) = false by simpa using e3)
                    by_cases e4 : ((s.extract a a1).toList == [61]) = true
                    · have hc : c = 61 := by rw [HX.out, beq_iff_eq] at e4; simpa using e4
                      have HN := Lib.hid (show signL (c :: r) = some ⟨5, 0, [c], 1⟩ by unfold signL; rw [if_neg HT.out, List.take_succ_cons, List.take_zero, if_pos (by rw [hc]; rfl)])
                      clear hc
                      have y0 := e0.out
                      have y1 := e1.out
                      have y2 := e2.out
                      have y3 := e3.out
                      go_enter Tryz.func58, Tryz.ntmps58
                      go_wp2_with fail
                      refine (refLow_any c _).mono ?_
                      rintro e w1 ⟨rfl, rfl⟩
                      rw [H1.out]
                      go_wp2_with fail
                      refine (refDigit_any c _).mono ?_
                      rintro e w1 ⟨rfl, rfl⟩
                      rw [H2.out]
                      go_wp2_with fail
                      refine bodyPost_ret (v := .tuple #[.agg #[.int .i64 5, .int .i64 (a : Nat), .int .i64 0, .string (s.extract a a1)], .int .i64 (a1 : Nat), .bool true]) (by simp [results, Tryz.results58, go_sem, *]) rfl ⟨?_, ?_⟩
                      · rw [HN.out, HXA.out, HA.out.1]
                        exact rfl
                      · exact (Below.refl _ _).alloc (Nat.le_refl _) _
                    · have e4 := Lib.hid (show ((s.extract a a1).toList == [61]) = false by simpa using e4)
                      by_cases e5 : ((s.extract a a1).toList == [62]) = true
                      · have hc : c = 62 := by rw [HX.out, beq_iff_eq] at e5; simpa using e5
                        have HN := Lib.hid (show signL (c :: r) = some ⟨5, 0, [c], 1⟩ by unfold signL; rw [if_neg HT.out, List.take_succ_cons, List.take_zero, if_pos (by rw [hc]; rfl)])
                        clear hc
                        have y0 := e0.out
                        have y1 := e1.out
                        have y2 := e2.out
                        have y3 := e3.out
                        have y4 := e4.out
                        go_enter Tryz.func58, Tryz.ntmps58
                        go_wp2_with fail
                        refine (refLow_any c _).mono ?_
                        rintro e w1 ⟨rfl, rfl⟩
                        rw [H1.out]
                        go_wp2_with fail
                        refine (refDigit_any c _).mono ?_
                        rintro e w1 ⟨rfl, rfl⟩
                        rw [H2.out]
                        go_wp2_with fail
                        refine bodyPost_ret (v := .tuple #[.agg #[.int .i64 5, .int .i64 (a : Nat), .int .i64 0, .string (s.extract a a1)], .int .i64 (a1 : Nat), .bool true]) (by simp [results, Tryz.results58, go_sem, *]) rfl ⟨?_, ?_⟩
                        · rw [HN.out, HXA.out, HA.out.1]
                          exact rfl
                        · exact (Below.refl _ _).alloc (Nat.le_refl _) _
                      · have e5 := Lib.hid (show ((s.extract a a1).toList == [62]) = false by simpa using e5)
                        have HN := Lib.hid (show signL (c :: r) = none by unfold signL; rw [if_neg HT.out, List.take_succ_cons, List.take_zero, if_neg]; rw [← HX.out]; unfold signB; simp only [HX.out, show (([c] : List UInt8) == [40]) = false by rw [← HX.out]; exact e0.out, show (([c] : List UInt8) == [41]) = false by rw [← HX.out]; exact e1.out, show (([c] : List UInt8) == [44]) = false by rw [← HX.out]; exact e2.out, show (([c] : List UInt8) == [60]) = false by rw [← HX.out]; exact e3.out, show (([c] : List UInt8) == [61]) = false by rw [← HX.out]; exact e4.out, show (([c] : List UInt8) == [62]) = false by rw [← HX.out]; exact e5.out]; simp)
                        have y0 := e0.out
                        have y1 := e1.out
                        have y2 := e2.out
                        have y3 := e3.out
                        have y4 := e4.out
                        have y5 := e5.out
                        go_enter Tryz.func58, Tryz.ntmps58
                        go_wp2_with fail
                        refine (refLow_any c _).mono ?_
                        rintro e w1 ⟨rfl, rfl⟩
                        rw [H1.out]
                        go_wp2_with fail
                        refine (refDigit_any c _).mono ?_
                        rintro e w1 ⟨rfl, rfl⟩
                        rw [H2.out]
                        go_wp2_with fail
                        refine bodyPost_ret (v := .tuple #[.agg #[.int .i64 5, .int .i64 (a : Nat), .int .i64 0, .string (s.extract a a1)], .int .i64 (a1 : Nat), .bool false]) (by simp [results, Tryz.results58, go_sem, *]) rfl ⟨?_, ?_⟩
                        · rw [HN.out]
                          exact ⟨5, (a : Nat), 0, _, (a1 : Nat), rfl⟩
                        · exact (Below.refl _ _).alloc (Nat.le_refl _) _
  · have m1 : ¬ (a1 : Int) < (s.size : Int) := by omega
    have HT := Lib.hid (show ¬ (2 ≤ (c :: r).length ∧ signB ((c :: r).take 2) = true) by rintro ⟨x, _⟩; simp only [List.length_cons] at x; have := HLEN.out; have := HA.out; omega)
    clear h2
    by_cases e0 : ((s.extract a a1).toList == [40]) = true
    · have hc : c = 40 := by rw [HX.out, beq_iff_eq] at e0; simpa using e0
      have HN := Lib.hid (show signL (c :: r) = some ⟨5, 0, [c], 1⟩ by unfold signL; rw [if_neg HT.out, List.take_succ_cons, List.take_zero, if_pos (by rw [hc]; rfl)])
      clear hc
      go_enter Tryz.func58, Tryz.ntmps58
      go_wp2_with fail
      refine (refLow_any c _).mono ?_
      rintro e w1 ⟨rfl, rfl⟩
      rw [H1.out]
      go_wp2_with fail
      refine (refDigit_any c _).mono ?_
      rintro e w1 ⟨rfl, rfl⟩
      rw [H2.out]
      go_wp2_with fail
      refine bodyPost_ret (v := .tuple #[.agg #[.int .i64 5, .int .i64 (a : Nat), .int .i64 0, .string (s.extract a a1)], .int .i64 (a1 : Nat), .bool true]) (by simp [results, Tryz.results58, go_sem, *]) rfl ⟨?_, ?_⟩
      · rw [HN.out, HXA.out, HA.out.1]
        exact rfl
      · exact (Below.refl _ _).alloc (Nat.le_refl _) _
    · have e0 := Lib.hid (show ((s.extract a a1).toList == [40]) = false by simpa using e0)
      by_cases e1 : ((s.extract a a1).toList == [41]) = true
      · have hc : c = 41 := by rw [HX.out, beq_iff_eq] at e1; simpa using e1
        have HN := Lib.hid (show signL (c :: r) = some ⟨5, 0, [c], 1⟩ by unfold signL; rw [if_neg HT.out, List.take_succ_cons, List.take_zero, if_pos (by rw [hc]; rfl)])
        clear hc
        have y0 := e0.out
        go_enter Tryz.func58, Tryz.ntmps58
        go_wp2_with fail
        refine (refLow_any c _).mono ?_
        rintro e w1 ⟨rfl, rfl⟩
        rw [H1.out]
        go_wp2_with fail
        refine (refDigit_any c _).mono ?_
        rintro e w1 ⟨rfl, rfl⟩
        rw [H2.out]
        go_wp2_with fail
        refine bodyPost_ret (v := .tuple #[.agg #[.int .i64 5, .int .i64 (a : Nat), .int .i64 0, .string (s.extract a a1)], .int .i64 (a1 : Nat), .bool true]) (by simp [results, Tryz.results58, go_sem, *]) rfl ⟨?_, ?_⟩
        · rw [HN.out, HXA.out, HA.out.1]
          exact rfl
        · exact (Below.refl _ _).alloc (Nat.le_refl _) _
      · have e1 := Lib.hid (show ((s.extract a a1).toList == [41]) = false by simpa using e1)
        by_cases e2 : ((s.extract a a1).toList == [44]) = true
        · have hc : c = 44 := by rw [HX.out, beq_iff_eq] at e2; simpa using e2
          have HN := Lib.hid (show signL (c :: r) = some ⟨5, 0, [c], 1⟩ by unfold signL; rw [if_neg HT.out, List.take_succ_cons, List.take_zero, if_pos (by rw [hc]; rfl)])
          clear hc
          have y0 := e0.out
          have y1 := e1.out
          go_enter Tryz.func58, Tryz.ntmps58
          go_wp2_with fail
          refine (refLow_any c _).mono ?_
          rintro e w1 ⟨rfl, rfl⟩
          rw [H1.out]
          go_wp2_with fail
          refine (refDigit_any c _).mono ?_
          rintro e w1 ⟨rfl, rfl⟩
          rw [H2.out]
          go_wp2_with fail
          refine bodyPost_ret (v := .tuple #[.agg #[.int .i64 5, .int .i64 (a : Nat), .int .i64 0, .string (s.extract a a1)], .int .i64 (a1 : Nat), .bool true]) (by simp [results, Tryz.results58, go_sem, *]) rfl ⟨?_, ?_⟩
          · rw [HN.out, HXA.out, HA.out.1]
            exact rfl
          · exact (Below.refl _ _).alloc (Nat.le_refl _) _
        · have e2 := Lib.hid (show ((s.extract a a1).toList == [44]) = false by simpa using e2)
          by_cases e3 : ((s.extract a a1).toList == [60]) = true
          · have hc : c = 60 := by rw [HX.out, beq_iff_eq] at e3; simpa using e3
            have HN := Lib.hid (show signL (c :: r) = some ⟨5, 0, [c], 1⟩ by unfold signL; rw [if_neg HT.out, List.take_succ_cons, List.take_zero, if_pos (by rw [hc]; rfl)])
            clear hc
            have y0 := e0.out
            have y1 := e1.out
            have y2 := e2.out
            go_enter Tryz.func58, Tryz.ntmps58
            go_wp2_with fail
            refine (refLow_any c _).mono ?_
            rintro e w1 ⟨rfl, rfl⟩
            rw [H1.out]
            go_wp2_with fail
            refine (refDigit_any c _).mono ?_
            rintro e w1 ⟨rfl, rfl⟩
            rw [H2.out]
            go_wp2_with fail
            refine bodyPost_ret (v := .tuple #[.agg #[.int .i64 5, .int .i64 (a : Nat), .int .i64 0, .string (s.extract a a1)], .int .i64 (a1 : Nat), .bool true]) (by simp [results, Tryz.results58, go_sem, *]) rfl ⟨?_, ?_⟩
            · rw [HN.out, HXA.out, HA.out.1]
              exact rfl
            · exact (Below.refl _ _).alloc (Nat.le_refl _) _
          · have e3 := Lib.hid (show ((s.extract a a1).toList == [60]) = false by simpa using e3)
            by_cases e4 : ((s.extract a a1).toList == [61]) = true
            · have hc : c = 61 := by rw [HX.out, beq_iff_eq] at e4; simpa using e4
              have HN := Lib.hid (show signL (c :: r) = some ⟨5, 0, [c], 1⟩ by unfold signL; rw [if_neg HT.out, List.take_succ_cons, List.take_zero, if_pos (by rw [hc]; rfl)])
              clear hc
              have y0 := e0.out
              have y1 := e1.out
              have y2 := e2.out
              have y3 := e3.out
              go_enter Tryz.func58, Tryz.ntmps58
              go_wp2_with fail
              refine (refLow_any c _).mono ?_
              rintro e w1 ⟨rfl, rfl⟩
              rw [H1.out]
              go_wp2_with fail
              refine (refDigit_any c _).mono ?_
              rintro e w1 ⟨rfl, rfl⟩
              rw [H2.out]
              go_wp2_with fail
              refine bodyPost_ret (v := .tuple #[.agg #[.int .i64 5, .int .i64 (a : Nat), .int .i64 0, .string (s.extract a a1)], .int .i64 (a1 : Nat), .bool true]) (by simp [results, Tryz.results58, go_sem, *]) rfl ⟨?_, ?_⟩
              · rw [HN.out, HXA.out, HA.out.1]
                exact rfl
              · exact (Below.refl _ _).alloc (Nat.le_refl _) _
            · have e4 := Lib.hid (show ((s.extract a a1).toList == [61]) = false by simpa using e4)
              by_cases e5 : ((s.extract a a1).toList == [62]) = true
              · have hc : c = 62 := by rw [HX.out, beq_iff_eq] at e5; simpa using e5
                have HN := Lib.hid (show signL (c :: r) = some ⟨5, 0, [c], 1⟩ by unfold signL; rw [if_neg HT.out, List.take_succ_cons, List.take_zero, if_pos (by rw [hc]; rfl)])
                clear hc
                have y0 := e0.out
                have y1 := e1.out
                have y2 := e2.out
                have y3 := e3.out
                have y4 := e4.out
                go_enter Tryz.func58, Tryz.ntmps58
                go_wp2_with fail
                refine (refLow_any c _).mono ?_
                rintro e w1 ⟨rfl, rfl⟩
                rw [H1.out]
                go_wp2_with fail
                refine (refDigit_any c _).mono ?_
                rintro e w1 ⟨rfl, rfl⟩
                rw [H2.out]
                go_wp2_with fail
                refine bodyPost_ret (v := .tuple #[.agg #[.int .i64 5, .int .i64 (a : Nat), .int .i64 0, .string (s.extract a a1)], .int .i64 (a1 : Nat), .bool true]) (by simp [results, Tryz.results58, go_sem, *]) rfl ⟨?_, ?_⟩
                · rw [HN.out, HXA.out, HA.out.1]
                  exact rfl
                · exact (Below.refl _ _).alloc (Nat.le_refl _) _
              · have e5 := Lib.hid (show ((s.extract a a1).toList == [62]) = false by simpa using e5)
                have HN := Lib.hid (show signL (c :: r) = none by unfold signL; rw [if_neg HT.out, List.take_succ_cons, List.take_zero, if_neg]; rw [← HX.out]; unfold signB; simp only [HX.out, show (([c] : List UInt8) == [40]) = false by rw [← HX.out]; exact e0.out, show (([c] : List UInt8) == [41]) = false by rw [← HX.out]; exact e1.out, show (([c] : List UInt8) == [44]) = false by rw [← HX.out]; exact e2.out, show (([c] : List UInt8) == [60]) = false by rw [← HX.out]; exact e3.out, show (([c] : List UInt8) == [61]) = false by rw [← HX.out]; exact e4.out, show (([c] : List UInt8) == [62]) = false by rw [← HX.out]; exact e5.out]; simp)
                have y0 := e0.out
                have y1 := e1.out
                have y2 := e2.out
                have y3 := e3.out
                have y4 := e4.out
                have y5 := e5.out
                go_enter Tryz.func58, Tryz.ntmps58
                go_wp2_with fail
                refine (refLow_any c _).mono ?_
                rintro e w1 ⟨rfl, rfl⟩
                rw [H1.out]
                go_wp2_with fail
                refine (refDigit_any c _).mono ?_
                rintro e w1 ⟨rfl, rfl⟩
                rw [H2.out]
                go_wp2_with fail
                refine bodyPost_ret (v := .tuple #[.agg #[.int .i64 5, .int .i64 (a : Nat), .int .i64 0, .string (s.extract a a1)], .int .i64 (a1 : Nat), .bool false]) (by simp [results, Tryz.results58, go_sem, *]) rfl ⟨?_, ?_⟩
                · rw [HN.out]
                  exact ⟨5, (a : Nat), 0, _, (a1 : Nat), rfl⟩
                · exact (Below.refl _ _).alloc (Nat.le_refl _) _
end Go.Proofs.YtmfkpoojfpepaaaGreatDoor.Tk
