/-
  Contract of the document's answer one, where a text begins. Memory that was there is left as it was.
-/
import Derived.Test.YtmjlfmoaoobmnaaDoorTkLeaf
import Derived.Test.YtmjlfmoaoobmnaaDoorTkOneKit
import Derived.Deep.RegionHeldLaw
namespace Go.Proofs.YtmjlfmoaoobmnaaDoor.Tk
open Go.RowKit
set_option linter.unusedVariables false
set_option linter.unusedSimpArgs false

theorem inB_iff (d : UInt8) : inB d = (decide (32 ≤ d.toNat) && decide (d.toNat ≤ 126) && !(d.toNat == 34)) := rfl
set_option maxRecDepth 100000 in
set_option maxHeartbeats 8000000 in
theorem oneText (s : ByteArray) (hs : s.size ≤ 500) (a : Nat) (c : UInt8) (r : List UInt8) (hL : s.data.toList.drop a = c :: r) (h1 : low c = false) (h2 : dig c = false) (hc : c.toNat = 34) (w : World) :
    Calls Tryd.prog 13 #[.string s, .int .i64 (a : Nat)] w fun e w' => OneEnd a e (textL r) ∧ Below w.heap.size w w' := by
  have hlen := at_len hL
  have halt : a < s.size := by omega
  have haz : (a : Int) < (s.size : Int) := by omega
  have hb0 := at_byte hL halt
  have HL := Lib.hid hL
  have HLEN := Lib.hid hlen
  have H5 := Lib.hid hs
  clear hL hlen hs
  have H1 := Lib.hid h1
  have H2 := Lib.hid h2
  have hcz : ((c.toNat : Nat) : Int) = 34 := by omega
  have HCZ := Lib.hid hcz
  obtain ⟨f, hf⟩ : ∃ f : Nat, f = a + 1 := ⟨_, rfl⟩
  have HFF := Lib.hid (wrap_small f (by have := H5.out; have := HLEN.out; omega))
  have hfz2 : (a : Int) + 1 = (f : Int) := by omega
  have HD := Lib.hid (show s.data.toList.drop f = r by rw [hf, ← List.drop_drop, HL.out]; rfl)
  have HDL := Lib.hid (show f + r.length = s.size by have := HLEN.out; omega)
  have HF := Lib.hid hf
  clear h1 h2 hc hf
  have CL := Lib.hid (fun W => refLow_any c W)
  have CD := Lib.hid (fun W => refDigit_any c W)
  rw [hcz, H1.out] at CL
  rw [hcz, H2.out] at CD
  have hff := HFF.out
  go_enter Tryd.func13, Tryd.ntmps13
  go_wp2_with fail
  refine (CL.out _).mono ?_
  rintro e w1 ⟨rfl, rfl⟩
  go_wp2_with fail
  refine (CD.out _).mono ?_
  rintro e w1 ⟨rfl, rfl⟩
  go_wp2_with fail
  clear hff
  go_loopw [8] (fun va wr => OneR inB r f (w.alloc (.cells #[.int .i64 0, .int .i64 0, .int .i64 0, .string ⟨#[]⟩] 41)) va wr) (fun va _ => s.size - natOf va)
  case atStart => exact ⟨f, 0, by first | rfl | exact congrArg (Value.int .i64) HFF.out, Lib.hid ⟨rfl, Nat.zero_le _⟩, Lib.hid (fun j c h => absurd h (Nat.not_lt_zero _)), rfl⟩
  case round =>
    obtain ⟨p, k, rfl, hpk, hall, rfl⟩ := hrel
    by_cases hlt : p < s.size
    · have hlz : (p : Int) < (s.size : Int) := by omega
      have HDK0 := byte_at HD.out hpk.out.1 hlt
      obtain ⟨d, hd⟩ : ∃ d, s[p] = d := ⟨_, rfl⟩
      rw [hd] at HDK0
      have HDK := Lib.hid HDK0
      clear HDK0
      by_cases g1 : 32 ≤ d.toNat
      · have y1 : (32 : Int) ≤ ((d.toNat : Nat) : Int) := by omega
        by_cases g2 : d.toNat ≤ 126
        · have y2 : ((d.toNat : Nat) : Int) ≤ 126 := by omega
          by_cases g3 : d.toNat = 34
          · have y3 : (((d.toNat : Nat) : Int) == 34) = true := by rw [beq_iff_eq]; omega
            have y3b : ((d.toNat : Nat) : Int) = 34 := by omega
            have HIN := Lib.hid (show inB d = false by rw [inB_iff, g3]; simp)
            have HD34 := Lib.hid (show d.toNat = (34 : UInt8).toNat from g3)
            clear g1 g2 g3
            have hrun := run_eq inB r k hpk.out.2 hall.out (fun e he => by have := HDK.out.symm.trans he; cases this; exact HIN.out)
            have hk := hpk.out
            have HF2 := HF.out
            have z1 : ((p : Int) == (s.size : Int)) = false := by rw [beq_eq_false_iff_ne]; omega
            obtain ⟨k1, hk1⟩ : ∃ k1 : Nat, k1 = k + 1 := ⟨_, rfl⟩
            have hk6 : k1 ≤ 1000000 := by have := H5.out; have := HDL.out; omega
            have U1 := Lib.hid (wrap_small k1 hk6)
            have hpa : p = a + k1 := by omega
            have u2 : (p : Int) - (a : Int) = (k1 : Int) := sub_is hpa
            have U3 := Lib.hid (wrap_small k (by omega))
            have u4 : (k1 : Int) - 1 = (k : Int) := by omega
            clear hpa hk6
            by_cases h200 : k ≤ 200
            · have z2 : ¬ (200 : Int) < (k : Int) := by omega
              have HN := Lib.hid (show textL r = some ⟨4, 0, r.take k, k + 2⟩ by unfold textL; rw [hrun, if_pos ⟨h200, by rw [HDK.out, show d = 34 from UInt8.toNat_inj.1 HD34.out]⟩])
              have HPA := Lib.hid (piece_at HD.out hk.1)
              have HPZ := Lib.hid (show p + 1 = a + (k + 2) by omega)
              have V2 := Lib.hid (i64_small f (by have := H5.out; omega))
              have V3 := Lib.hid (i64_succ p (by have := H5.out; omega))
              have hfp : (f : Int) ≤ (p : Int) := by omega
              have hps : (p : Int) ≤ (s.size : Int) := by omega
              clear hrun hk HF2 h200 hk1
              have u1 := U1.out
              have u3 := U3.out
              have v2 := V2.out
              have v3 := V3.out
              go_wp2_with fail
              go_region_held_law (fun _ => True) (trivial) (fail)
              all_goals
                go_wp2_with fail
                refine bodyPost_ret (v := .tuple #[.agg #[.int .i64 4, .int .i64 (a : Nat), .int .i64 0, .string (s.extract f p)], .int .i64 ((p + 1 : Nat) : Int), .bool true]) (by simp [results, Tryd.results13, go_sem, *]) rfl ⟨?_, ?_⟩
                · rw [HN.out, HPA.out, HPZ.out]
                  exact rfl
                · exact ((Below.refl _ _).alloc (Nat.le_refl _) _).drew
            · have z2 : (200 : Int) < (k : Int) := by omega
              have HN := Lib.hid (show textL r = none by unfold textL; rw [hrun, if_neg (fun x => h200 x.1)])
              clear hrun hk HF2 h200 hk1
              have u1 := U1.out
              have u3 := U3.out
              go_wp2_with fail
              refine bodyPost_ret (v := .tuple #[.agg #[.int .i64 0, .int .i64 0, .int .i64 0, .string ⟨#[]⟩], .int .i64 (p : Nat), .bool false]) (by simp [results, Tryd.results13, go_sem, *]) rfl ⟨?_, ?_⟩
              · rw [HN.out]
                exact ⟨0, 0, 0, _, (p : Nat), rfl⟩
              · exact (Below.refl _ _).alloc (Nat.le_refl _) _
          · have y3 : (((d.toNat : Nat) : Int) == 34) = false := by rw [beq_eq_false_iff_ne]; omega
            have y3b : ¬ ((d.toNat : Nat) : Int) = 34 := by omega
            have HN := Lib.hid (show inB d = true by rw [inB_iff, decide_eq_true g1, decide_eq_true g2]; simp [g3])
            clear g1 g2 g3
            have HX5 := Lib.hid (wrap_succ p (by have := H5.out; omega))
            go_wp2_with fail
            go_roundw
            case rel => exact ⟨p + 1, k + 1, by first | exact congrArg (Value.int .i64) HX5.out | go_num, Lib.hid ⟨by have := hpk.out; omega, by have := hpk.out; have := HDL.out; omega⟩, Lib.hid (grown hall.out HDK.out HN.out), rfl⟩
            case measure => (simp [natOf, HX5.out]; omega)
        · have y2 : ¬ ((d.toNat : Nat) : Int) ≤ 126 := by omega
          have y3 : (((d.toNat : Nat) : Int) == 34) = false := by rw [beq_eq_false_iff_ne]; omega
          have HIN := Lib.hid (show inB d = false by rw [inB_iff, decide_eq_false g2]; simp)
          have HNE := Lib.hid (show d ≠ 34 from fun e => by rw [e] at g2; exact g2 (by decide))
          clear g1 g2
          have hrun := run_eq inB r k hpk.out.2 hall.out (fun e he => by have := HDK.out.symm.trans he; cases this; exact HIN.out)
          have hk := hpk.out
          have HF2 := HF.out
          have z1 : ((p : Int) == (s.size : Int)) = false := by rw [beq_eq_false_iff_ne]; omega
          obtain ⟨k1, hk1⟩ : ∃ k1 : Nat, k1 = k + 1 := ⟨_, rfl⟩
          have hk6 : k1 ≤ 1000000 := by have := H5.out; have := HDL.out; omega
          have U1 := Lib.hid (wrap_small k1 hk6)
          have hpa : p = a + k1 := by omega
          have u2 : (p : Int) - (a : Int) = (k1 : Int) := sub_is hpa
          have U3 := Lib.hid (wrap_small k (by omega))
          have u4 : (k1 : Int) - 1 = (k : Int) := by omega
          clear hpa hk6
          by_cases h200 : k ≤ 200
          · have z2 : ¬ (200 : Int) < (k : Int) := by omega
            have V2 := Lib.hid (i64_small f (by have := H5.out; omega))
            have V3 := Lib.hid (i64_succ p (by have := H5.out; omega))
            have HN := Lib.hid (show textL r = none by unfold textL; rw [hrun, if_neg]; rintro ⟨_, x⟩; rw [HDK.out] at x; cases x; exact HNE.out rfl)
            have hfp : (f : Int) ≤ (p : Int) := by omega
            have hps : (p : Int) ≤ (s.size : Int) := by omega
            clear hrun hk HF2 h200 hk1
            have u1 := U1.out
            have u3 := U3.out
            have v2 := V2.out
            have v3 := V3.out
            go_wp2_with fail
            go_region_held_law (fun _ => True) (trivial) (fail)
            all_goals
              go_wp2_with fail
              refine bodyPost_ret (v := .tuple #[.agg #[.int .i64 4, .int .i64 (a : Nat), .int .i64 0, .string (s.extract f p)], .int .i64 ((p : Nat) + 1 : Int), .bool false]) (by simp [results, Tryd.results13, go_sem, *]) rfl ⟨?_, ?_⟩
              · rw [HN.out]
                exact ⟨4, (a : Nat), 0, _, _, rfl⟩
              · exact ((Below.refl _ _).alloc (Nat.le_refl _) _).drew
          · have z2 : (200 : Int) < (k : Int) := by omega
            have HN := Lib.hid (show textL r = none by unfold textL; rw [hrun, if_neg (fun x => h200 x.1)])
            clear hrun hk HF2 h200 hk1
            have u1 := U1.out
            have u3 := U3.out
            go_wp2_with fail
            refine bodyPost_ret (v := .tuple #[.agg #[.int .i64 0, .int .i64 0, .int .i64 0, .string ⟨#[]⟩], .int .i64 (p : Nat), .bool false]) (by simp [results, Tryd.results13, go_sem, *]) rfl ⟨?_, ?_⟩
            · rw [HN.out]
              exact ⟨0, 0, 0, _, (p : Nat), rfl⟩
            · exact (Below.refl _ _).alloc (Nat.le_refl _) _
      · have y1 : ¬ (32 : Int) ≤ ((d.toNat : Nat) : Int) := by omega
        have y3 : (((d.toNat : Nat) : Int) == 34) = false := by rw [beq_eq_false_iff_ne]; omega
        have HIN := Lib.hid (show inB d = false by rw [inB_iff, decide_eq_false g1]; simp)
        have HNE := Lib.hid (show d ≠ 34 from fun e => by rw [e] at g1; exact g1 (by decide))
        clear g1
        have hrun := run_eq inB r k hpk.out.2 hall.out (fun e he => by have := HDK.out.symm.trans he; cases this; exact HIN.out)
        have hk := hpk.out
        have HF2 := HF.out
        have z1 : ((p : Int) == (s.size : Int)) = false := by rw [beq_eq_false_iff_ne]; omega
        obtain ⟨k1, hk1⟩ : ∃ k1 : Nat, k1 = k + 1 := ⟨_, rfl⟩
        have hk6 : k1 ≤ 1000000 := by have := H5.out; have := HDL.out; omega
        have U1 := Lib.hid (wrap_small k1 hk6)
        have hpa : p = a + k1 := by omega
        have u2 : (p : Int) - (a : Int) = (k1 : Int) := sub_is hpa
        have U3 := Lib.hid (wrap_small k (by omega))
        have u4 : (k1 : Int) - 1 = (k : Int) := by omega
        clear hpa hk6
        by_cases h200 : k ≤ 200
        · have z2 : ¬ (200 : Int) < (k : Int) := by omega
          have V2 := Lib.hid (i64_small f (by have := H5.out; omega))
          have V3 := Lib.hid (i64_succ p (by have := H5.out; omega))
          have HN := Lib.hid (show textL r = none by unfold textL; rw [hrun, if_neg]; rintro ⟨_, x⟩; rw [HDK.out] at x; cases x; exact HNE.out rfl)
          have hfp : (f : Int) ≤ (p : Int) := by omega
          have hps : (p : Int) ≤ (s.size : Int) := by omega
          clear hrun hk HF2 h200 hk1
          have u1 := U1.out
          have u3 := U3.out
          have v2 := V2.out
          have v3 := V3.out
          go_wp2_with fail
          go_region_held_law (fun _ => True) (trivial) (fail)
          all_goals
            go_wp2_with fail
            refine bodyPost_ret (v := .tuple #[.agg #[.int .i64 4, .int .i64 (a : Nat), .int .i64 0, .string (s.extract f p)], .int .i64 ((p : Nat) + 1 : Int), .bool false]) (by simp [results, Tryd.results13, go_sem, *]) rfl ⟨?_, ?_⟩
            · rw [HN.out]
              exact ⟨4, (a : Nat), 0, _, _, rfl⟩
            · exact ((Below.refl _ _).alloc (Nat.le_refl _) _).drew
        · have z2 : (200 : Int) < (k : Int) := by omega
          have HN := Lib.hid (show textL r = none by unfold textL; rw [hrun, if_neg (fun x => h200 x.1)])
          clear hrun hk HF2 h200 hk1
          have u1 := U1.out
          have u3 := U3.out
          go_wp2_with fail
          refine bodyPost_ret (v := .tuple #[.agg #[.int .i64 0, .int .i64 0, .int .i64 0, .string ⟨#[]⟩], .int .i64 (p : Nat), .bool false]) (by simp [results, Tryd.results13, go_sem, *]) rfl ⟨?_, ?_⟩
          · rw [HN.out]
            exact ⟨0, 0, 0, _, (p : Nat), rfl⟩
          · exact (Below.refl _ _).alloc (Nat.le_refl _) _
    · have hlz : ¬ (p : Int) < (s.size : Int) := by omega
      have hrun := run_eq inB r k hpk.out.2 hall.out (fun e he => by have h1 := (List.getElem?_eq_some_iff.1 he).1; have := hpk.out; have := HDL.out; omega)
      have HN := Lib.hid (show textL r = none by unfold textL; rw [hrun, if_neg]; rintro ⟨_, x⟩; have h1 := (List.getElem?_eq_some_iff.1 x).1; have := hpk.out; have := HDL.out; omega)
      have z1 : ((p : Int) == (s.size : Int)) = true := by rw [beq_iff_eq]; have := hpk.out; have := HDL.out; omega
      clear hrun
      go_wp2_with fail
      refine bodyPost_ret (v := .tuple #[.agg #[.int .i64 0, .int .i64 0, .int .i64 0, .string ⟨#[]⟩], .int .i64 (p : Nat), .bool false]) (by simp [results, Tryd.results13, go_sem, *]) rfl ⟨?_, ?_⟩
      · rw [HN.out]
        exact ⟨0, 0, 0, _, (p : Nat), rfl⟩
      · exact (Below.refl _ _).alloc (Nat.le_refl _) _
end Go.Proofs.YtmjlfmoaoobmnaaDoor.Tk
