/-
  The walk of TokenCuts: it returns true. Memory that was there is left as it was; the package variables ErrSyntax and ErrRange of strconv hold interface values.
-/
import Derived.Test.YtmjlfmoaoobmnaaDoorTkUp
import Derived.Test.YtmjlfmoaoobmnaaDoorTkAs
import Derived.Test.YtmjlfmoaoobmnaaDoorTkCodes
import Derived.Test.YtmjlfmoaoobmnaaDoorTkRefCut
namespace Go.Proofs.YtmjlfmoaoobmnaaDoor.Tk
open Go.RowKit
set_option linter.unusedVariables false
set_option linter.unusedSimpArgs false

theorem tks_nil (W : World) : TksAt W W.heap.size none [] := ⟨Nat.le_refl _, fun h => absurd h (by simp)⟩
/-- What the code and the document tell of a text: the same tokens, and the same number of an error. -/
structure CutIs (s : ByteArray) (ts : List Tok) (ev : Value) (n : Int) : Prop where
  code : ∀ W, LaidE W → Calls Tryd.prog 6 #[.string s] W fun e w' => ∃ A cap, e = .returned (.tuple #[.slice A ts.length cap, ev]) ∧ TksAt w' w'.heap.size A ts ∧ Below W.heap.size W w'
  doc : ∀ W, Calls Tryd.prog 7 #[.string s] W fun e w' => ∃ A cap, e = .returned (.tuple #[.slice A ts.length cap, .int .i64 n]) ∧ TksAt w' w'.heap.size A ts ∧ Below W.heap.size W w'
  num : ∀ W, Calls Tryd.prog 8 #[ev] W fun e w' => e = .returned (.int .i64 n) ∧ W = w'
  few : ts.length ≤ 600
theorem cut_is (s : ByteArray) : ∃ ts ev n, CutIs s ts ev n := by
  by_cases hs : 500 < s.size
  · refine ⟨[], .iface 37 (.int .i64 5), 5, fun W _ => ?_, fun W => ?_, code_5, by simp⟩
    · refine (cut_large s hs W).mono ?_
      rintro e w' ⟨rfl, rfl⟩
      exact ⟨none, 0, rfl, tks_nil _, Below.refl _ _⟩
    · refine (refCut_large s hs W).mono ?_
      rintro e w' ⟨rfl, rfl⟩
      exact ⟨none, 0, rfl, tks_nil _, Below.refl _ _⟩
  · have h5 : s.size ≤ 500 := by omega
    cases hc : cutAt 0 s.data.toList with
    | none =>
      refine ⟨[], .iface 37 (.int .i64 2), 2, fun W hW => ?_, fun W => ?_, code_2, by simp⟩
      · have C := cut_any s h5 W hW
        rw [hc] at C
        refine C.mono ?_
        rintro e w' ⟨he, hb⟩
        exact ⟨none, 0, he, tks_nil _, hb⟩
      · have C := refCut_any s h5 W
        rw [hc] at C
        refine C.mono ?_
        rintro e w' ⟨he, hb⟩
        exact ⟨none, 0, he, tks_nil _, hb⟩
    | some ts =>
      have hl := cut_few _ 0 s.data.toList ts (Nat.le_refl _) hc
      refine ⟨ts, .nilIface, 0, fun W hW => ?_, fun W => ?_, code_nil, by rw [← Lib.size_eq] at hl; omega⟩
      · have C := cut_any s h5 W hW
        rw [hc] at C
        refine C.mono ?_
        rintro e w' ⟨⟨u, he, hown⟩, hb⟩
        obtain ⟨A, cap, rfl, hT⟩ := own_tks hown
        exact ⟨A, cap, he, hT, hb⟩
      · have C := refCut_any s h5 W
        rw [hc] at C
        refine C.mono ?_
        rintro e w' ⟨⟨u, he, hown⟩, hb⟩
        obtain ⟨A, cap, rfl, hT⟩ := own_tks hown
        exact ⟨A, cap, he, hT, hb⟩

set_option maxHeartbeats 2000000 in
theorem cuts_walk (s : ByteArray) (w : World) (hE : LaidE w) (hm : s.size < 9223372036854775808) : Calls Tryd.prog 3 #[.string s] w fun e w' => e = .returned (.bool true) ∧ Below w.heap.size w w' := by
  have HE := Lib.hid hE
  have CU := Lib.hid (up_any w hE)
  clear hE
  by_cases h2 : 2000 < s.size
  · have hz : (2000 : Int) < (s.size : Int) := by omega
    go_enter Tryd.func3, Tryd.ntmps3
    go_wp2_with fail
    refine CU.out.mono ?_
    rintro e w1 ⟨rfl, hb1⟩
    go_wp2_with fail
    go_ret
    exact ⟨rfl, hb1⟩
  · have hz : ¬ (2000 : Int) < (s.size : Int) := by omega
    obtain ⟨ts, ev, n, hC⟩ := cut_is s
    have HC := Lib.hid hC
    clear hC
    go_enter Tryd.func3, Tryd.ntmps3
    go_wp2_with fail
    refine CU.out.mono ?_
    rintro e w1 ⟨rfl, hb1⟩
    have B1 := Lib.hid hb1
    have E1 := Lib.hid (HE.out.later hb1)
    clear hb1
    go_wp2_with fail
    refine (HC.out.code _ E1.out).mono ?_
    rintro e w2 ⟨A, cap, rfl, hT, hb2⟩
    have T2 := Lib.hid hT
    have B2 := Lib.hid (B1.out.trans (hb2.mono B1.out.size))
    clear hT hb2
    go_wp2_with fail
    refine (HC.out.doc _).mono ?_
    rintro e w3 ⟨D, cap3, rfl, hT, hb3⟩
    have T3 := Lib.hid ((T2.out.later hb3).wide hb3.size (Nat.le_refl _))
    have D3 := Lib.hid hT
    have B3 := Lib.hid (B2.out.trans (hb3.mono B2.out.size))
    clear hT hb3 T2
    go_wp2_with fail
    refine (HC.out.num _).mono ?_
    rintro e w4 ⟨rfl, rfl⟩
    go_wp2_with fail
    refine (as_any ts A cap _ T3.out HC.out.few).mono ?_
    rintro e w4 ⟨u, rfl, hown, hb4⟩
    obtain ⟨A4, cap4, rfl, hT⟩ := own_tks hown
    have T4 := Lib.hid hT
    have D4 := Lib.hid ((D3.out.later hb4).wide hb4.size (Nat.le_refl _))
    have B4 := Lib.hid (B3.out.trans (hb4.mono B3.out.size))
    clear hT hb4 hown T3 D3
    go_wp2_with fail
    refine (tokens_same ts A4 D cap4 cap3 _ T4.out D4.out HC.out.few).mono ?_
    rintro e w5 ⟨rfl, hb5⟩
    have B5 := Lib.hid (B4.out.trans (hb5.mono B4.out.size))
    clear hb5
    go_wp2_with fail
    go_ret
    exact ⟨rfl, B5.out⟩
end Go.Proofs.YtmjlfmoaoobmnaaDoor.Tk
