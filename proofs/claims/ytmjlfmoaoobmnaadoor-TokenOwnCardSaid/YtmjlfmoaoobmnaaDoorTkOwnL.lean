/-
  The walk of TokenOwn: it returns true. Memory that was there is left as it was; the package variables ErrSyntax and ErrRange of strconv hold interface values.
-/
import Derived.Test.YtmjlfmoaoobmnaaDoorTkUp
import Derived.Deep.RegionHeldLaw
namespace Go.Proofs.YtmjlfmoaoobmnaaDoor.Tk
open Go.RowKit
set_option linter.unusedVariables false
set_option linter.unusedSimpArgs false

theorem neq_large_nil (w : World) : (binOp .neq 25 (.iface 37 (.int .i64 5)) .nilIface).run Tryd.prog w = .ok (.bool true) w := by kernel_rfl
def OwnR (ts : List Tok) (v : World) (vi : Value) (wr : World) : Prop := ∃ k : Nat, vi = .int .i64 (k : Nat) ∧ k ≤ ts.length ∧ Below v.heap.size v wr
theorem w_small (n : Nat) (h : n ≤ 1000000) : wrap64 (n : Int) = (n : Int) := by unfold wrap64; omega
theorem headPos_drop (z : Nat) (ts : List Tok) (k : Nat) : (∀ h : k < ts.length, headPos z (ts.drop k) = ts[k].pos) ∧ (ts.length ≤ k → headPos z (ts.drop k) = z) := by
  constructor
  · intro h
    rw [List.drop_eq_getElem_cons h]
    rfl
  · intro h
    rw [List.drop_eq_nil_of_le h]
    rfl

theorem own_bad (s : ByteArray) (m : Int) (w : World) (hE : LaidE w) (hz : ¬ (2000 : Int) < (s.size : Int)) (q : ∀ w, (binOp .neq 25 (.iface 37 (.int .i64 m)) .nilIface).run Tryd.prog w = .ok (.bool true) w)
    (hC : ∀ W, LaidE W → Calls Tryd.prog 6 #[.string s] W fun e w' => e = .returned (.tuple #[.slice none 0 0, .iface 37 (.int .i64 m)]) ∧ Below W.heap.size W w') :
    Calls Tryd.prog 4 #[.string s] w fun e w' => e = .returned (.bool true) ∧ Below w.heap.size w w' := by
  have HE := Lib.hid hE
  have CU := Lib.hid (up_any w hE)
  have HC := Lib.hid hC
  clear hE hC
  go_enter Tryd.func4, Tryd.ntmps4
  go_wp2_with fail
  refine CU.out.mono ?_
  rintro e w1 ⟨rfl, hb1⟩
  have B1 := Lib.hid hb1
  have E1 := Lib.hid (HE.out.later hb1)
  clear hb1
  go_wp2_with fail
  refine (HC.out _ E1.out).mono ?_
  rintro e w2 ⟨rfl, hb2⟩
  have B2 := Lib.hid (B1.out.trans (hb2.mono B1.out.size))
  clear hb2
  go_wp2_with fail
  go_ret
  exact ⟨rfl, B2.out⟩
theorem own_far (s : ByteArray) (w : World) (hE : LaidE w) (hz : (2000 : Int) < (s.size : Int)) :
    Calls Tryd.prog 4 #[.string s] w fun e w' => e = .returned (.bool true) ∧ Below w.heap.size w w' := by
  have CU := Lib.hid (up_any w hE)
  clear hE
  go_enter Tryd.func4, Tryd.ntmps4
  go_wp2_with fail
  refine CU.out.mono ?_
  rintro e w1 ⟨rfl, hb1⟩
  go_wp2_with fail
  go_ret
  exact ⟨rfl, hb1⟩

set_option maxRecDepth 100000 in
set_option maxHeartbeats 8000000 in
theorem own_main (s : ByteArray) (ts : List Tok) (w : World) (hE : LaidE w) (h5 : s.size ≤ 500) (hc : cutAt 0 s.data.toList = some ts) :
    Calls Tryd.prog 4 #[.string s] w fun e w' => e = .returned (.bool true) ∧ Below w.heap.size w w' := by
  have q := neq_nil_nil
  have hz : ¬ (2000 : Int) < (s.size : Int) := by omega
  have HE := Lib.hid hE
  have CU := Lib.hid (up_any w hE)
  have CC := Lib.hid (fun W (hW : LaidE W) => cut_any s h5 W hW)
  rw [hc] at CC
  have HO := Lib.hid (cut_own _ 0 s.data.toList ts (Nat.le_refl _) hc)
  have HS := Lib.hid (Lib.size_eq s)
  have H5 := Lib.hid h5
  have HN5 := Lib.hid (show ts.length ≤ 500 by have := cut_few _ 0 s.data.toList ts (Nat.le_refl _) hc; rw [← Lib.size_eq] at this; omega)
  obtain ⟨n, hn⟩ : ∃ n, n = ts.length := ⟨_, rfl⟩
  have HN := Lib.hid hn
  clear hE h5 hc
  go_enter Tryd.func4, Tryd.ntmps4
  go_wp2_with fail
  refine CU.out.mono ?_
  rintro e w1 ⟨rfl, hb1⟩
  have B1 := Lib.hid hb1
  have E1 := Lib.hid (HE.out.later hb1)
  clear hb1
  go_wp2_with fail
  refine (CC.out _ E1.out).mono ?_
  rintro e w2 ⟨⟨u, rfl, hown⟩, hb2⟩
  obtain ⟨A, cap, rfl, hT⟩ := own_tks hown
  have T2 := Lib.hid hT
  have B2 := Lib.hid (B1.out.trans (hb2.mono B1.out.size))
  have E2 := Lib.hid (E1.out.later hb2)
  rw [← hn]
  clear hT hb2 hown hn
  go_wp2_with fail
  go_loopw [6] (fun vi wr => OwnR ts w2 vi wr) (fun vi _ => n - nOf vi)
  case atStart => exact ⟨0, rfl, Nat.zero_le _, Below.refl _ _⟩
  case round =>
    obtain ⟨k, rfl, hk, hBB⟩ := hrel
    have HB := Lib.hid hBB
    clear hBB
    by_cases hlt : k < n
    · have hlz : (k : Int) < (n : Int) := by omega
      have hkl : k < ts.length := by rw [← HN.out]; exact hlt
      obtain ⟨T, hT⟩ : ∃ T, T = ts[k] := ⟨_, rfl⟩
      obtain ⟨_, o2, o3, o4⟩ := HO.out k T (by rw [List.getElem?_eq_getElem hkl, hT])
      obtain ⟨to, hto⟩ : ∃ to, to = headPos (0 + s.data.toList.length) (ts.drop (k + 1)) := ⟨_, rfl⟩
      rw [← hto] at o2 o3 o4
      rw [Nat.sub_zero] at o4
      have HO4 := Lib.hid (show cutAt 0 (s.extract T.pos to).data.toList = some [⟨T.kind, 0, T.num, T.str⟩] by rw [Lib.extract_data]; exact o4)
      obtain ⟨tp, htp⟩ : ∃ x, x = T.pos := ⟨_, rfl⟩
      obtain ⟨tk, htk⟩ : ∃ x, x = T.kind := ⟨_, rfl⟩
      obtain ⟨tn, htn⟩ : ∃ x, x = T.num := ⟨_, rfl⟩
      obtain ⟨tS, hts⟩ : ∃ x : ByteArray, x = ⟨T.str.toArray⟩ := ⟨_, rfl⟩
      have HTV := Lib.hid (And.intro htk (And.intro htn hts))
      rw [← htp] at o2 HO4
      have HSZ := Lib.hid (show tp < to ∧ to ≤ s.size by rw [HS.out]; omega)
      have hge : ¬ (to : Int) ≤ (tp : Int) := by omega
      have hle : (tp : Int) ≤ (to : Int) := by omega
      have hls : (to : Int) ≤ (s.size : Int) := by have := HSZ.out; omega
      have CP := Lib.hid (fun W (hW : LaidE W) => cut_any (s.extract tp to) (by have := H5.out; simp only [ByteArray.size_extract]; omega) W hW)
      rw [HO4.out] at CP
      have EW := Lib.hid (E2.out.later HB.out)
      obtain ⟨k1, hk1⟩ : ∃ k1 : Nat, k1 = k + 1 := ⟨_, rfl⟩
      have hk1z : (k : Int) + 1 = (k1 : Int) := by omega
      have HK1W := Lib.hid (w_small k1 (by have := HN5.out; omega))
      have HK1 := Lib.hid hk1
      obtain ⟨g, hg, hgl, hcc⟩ := (T2.out.later HB.out).2 (by omega)
      subst hg
      have d0 := hcc k hkl
      rw [← hT, ← htk, ← htp, ← htn, ← hts] at d0
      have HCC := Lib.hid hcc
      have HGL := Lib.hid hgl
      have HD0 := Lib.hid d0
      clear hcc hgl o2 o3 o4 htp htk htn hts hk
      by_cases hlast : k1 < n
      · have hl1 : (k1 : Int) < (n : Int) := by omega
        have hk1l : k1 < ts.length := by rw [← HN.out]; exact hlast
        have hpos : to = ts[k1].pos := by rw [hto]; subst hk1; exact (headPos_drop _ ts (k + 1)).1 hk1l
        have e1 := (HCC.out k1 hk1l).2.1
        rw [← hpos] at e1
        obtain ⟨d0, d1, d2, d3⟩ := d0
        clear hto hpos hk1 hk1l hT hlast
        have hk1w := HK1W.out
        go_wp2_with fail
        refine (CP.out _ EW.out).mono ?_
        rintro e w3 ⟨⟨u, rfl, hown⟩, hb3⟩
        obtain ⟨A3, cap3, rfl, hT3⟩ := own_tks hown
        obtain ⟨g3, hg3, hg3l, hc3⟩ := hT3.2 Nat.zero_lt_one
        obtain ⟨x0, x1, x2, x3⟩ := hc3 0 Nat.zero_lt_one
        subst hg3
        have B3 := Lib.hid (HB.out.trans (hb3.mono HB.out.size))
        obtain ⟨y0, y1, y2, y3⟩ := HD0.out
        have m0 := cell_later hb3 y0
        have m1 := cell_later hb3 y1
        have m2 := cell_later hb3 y2
        have m3 := cell_later hb3 y3
        have n0 : w3.cell? ⟨g3, 0, none⟩ = some (.int .i64 tk) := by rw [HTV.out.1]; exact x0
        have n1 : w3.cell? ⟨g3, 1, none⟩ = some (.int .i64 0) := x1
        have n2 : w3.cell? ⟨g3, 2, none⟩ = some (.int .i64 tn) := by rw [HTV.out.2.1]; exact x2
        have n3 : w3.cell? ⟨g3, 3, none⟩ = some (.string tS) := by rw [HTV.out.2.2]; exact x3
        have HM := Lib.hid (And.intro m0 (And.intro m1 (And.intro m2 (And.intro m3 (And.intro n0 (And.intro n1 (And.intro n2 n3)))))))
        clear hown hb3 hT3 hc3 x0 x1 x2 x3 y0 y1 y2 y3 hg3l
        go_wp2_with fail
        go_region_held_law (fun W => W.cell? ⟨g, k * 4, none⟩ = some (.int .i64 tk) ∧ W.cell? ⟨g, k * 4 + 1, none⟩ = some (.int .i64 (tp : Nat)) ∧ W.cell? ⟨g, k * 4 + 2, none⟩ = some (.int .i64 tn) ∧ W.cell? ⟨g, k * 4 + 3, none⟩ = some (.string tS) ∧ W.cell? ⟨g3, 0, none⟩ = some (.int .i64 tk) ∧ W.cell? ⟨g3, 1, none⟩ = some (.int .i64 0) ∧ W.cell? ⟨g3, 2, none⟩ = some (.int .i64 tn) ∧ W.cell? ⟨g3, 3, none⟩ = some (.string tS))
          (first | assumption | exact HM.out) (fail)
        go_wp2_with fail
        clear hk1w
        go_roundw
        case rel => exact ⟨k1, by first | rfl | exact congrArg (Value.int .i64) HK1W.out | simp, by have := HK1.out; omega, B3.out.drew⟩
        case measure => (have := HK1.out; simp [nOf, HK1W.out]; omega)
      · have hl1 : ¬ (k1 : Int) < (n : Int) := by omega
        have hpos : to = s.size := by rw [hto, (headPos_drop _ ts (k + 1)).2 (by have := HN.out; omega), HS.out]; omega
        obtain ⟨d0, d1, d2, d3⟩ := d0
        clear hto hk1 hT hlast
        subst hpos
        have hk1w := HK1W.out
        go_wp2_with fail
        refine (CP.out _ EW.out).mono ?_
        rintro e w3 ⟨⟨u, rfl, hown⟩, hb3⟩
        obtain ⟨A3, cap3, rfl, hT3⟩ := own_tks hown
        obtain ⟨g3, hg3, hg3l, hc3⟩ := hT3.2 Nat.zero_lt_one
        obtain ⟨x0, x1, x2, x3⟩ := hc3 0 Nat.zero_lt_one
        subst hg3
        have B3 := Lib.hid (HB.out.trans (hb3.mono HB.out.size))
        obtain ⟨y0, y1, y2, y3⟩ := HD0.out
        have m0 := cell_later hb3 y0
        have m1 := cell_later hb3 y1
        have m2 := cell_later hb3 y2
        have m3 := cell_later hb3 y3
        have n0 : w3.cell? ⟨g3, 0, none⟩ = some (.int .i64 tk) := by rw [HTV.out.1]; exact x0
        have n1 : w3.cell? ⟨g3, 1, none⟩ = some (.int .i64 0) := x1
        have n2 : w3.cell? ⟨g3, 2, none⟩ = some (.int .i64 tn) := by rw [HTV.out.2.1]; exact x2
        have n3 : w3.cell? ⟨g3, 3, none⟩ = some (.string tS) := by rw [HTV.out.2.2]; exact x3
        have HM := Lib.hid (And.intro m0 (And.intro m1 (And.intro m2 (And.intro m3 (And.intro n0 (And.intro n1 (And.intro n2 n3)))))))
        clear hown hb3 hT3 hc3 x0 x1 x2 x3 y0 y1 y2 y3 hg3l
        go_wp2_with fail
        go_region_held_law (fun W => W.cell? ⟨g, k * 4, none⟩ = some (.int .i64 tk) ∧ W.cell? ⟨g, k * 4 + 1, none⟩ = some (.int .i64 (tp : Nat)) ∧ W.cell? ⟨g, k * 4 + 2, none⟩ = some (.int .i64 tn) ∧ W.cell? ⟨g, k * 4 + 3, none⟩ = some (.string tS) ∧ W.cell? ⟨g3, 0, none⟩ = some (.int .i64 tk) ∧ W.cell? ⟨g3, 1, none⟩ = some (.int .i64 0) ∧ W.cell? ⟨g3, 2, none⟩ = some (.int .i64 tn) ∧ W.cell? ⟨g3, 3, none⟩ = some (.string tS))
          (first | assumption | exact HM.out) (fail)
        go_wp2_with fail
        clear hk1w
        go_roundw
        case rel => exact ⟨k1, by first | rfl | exact congrArg (Value.int .i64) HK1W.out | simp, by have := HK1.out; omega, B3.out.drew⟩
        case measure => (have := HK1.out; simp [nOf, HK1W.out]; omega)
    · have hlz : ¬ (k : Int) < (n : Int) := by omega
      go_wp2_with fail
      go_ret
      exact ⟨rfl, B2.out.trans (HB.out.mono B2.out.size)⟩

theorem own_walk (s : ByteArray) (w : World) (hE : LaidE w) (hm : s.size < 9223372036854775808) : Calls Tryd.prog 4 #[.string s] w fun e w' => e = .returned (.bool true) ∧ Below w.heap.size w w' := by
  by_cases h2 : 2000 < s.size
  · exact own_far s w hE (by omega)
  · by_cases h5 : 500 < s.size
    · refine own_bad s 5 w hE (by omega) neq_large_nil fun W _ => (cut_large s h5 W).mono ?_
      rintro e w' ⟨rfl, rfl⟩
      exact ⟨rfl, Below.refl _ _⟩
    · cases hc : cutAt 0 s.data.toList with
      | none =>
        refine own_bad s 2 w hE (by omega) neq_lex_nil fun W hW => ?_
        have C := cut_any s (by omega) W hW
        rw [hc] at C
        exact C
      | some ts => exact own_main s ts w hE (by omega) hc
end Go.Proofs.YtmjlfmoaoobmnaaDoor.Tk
