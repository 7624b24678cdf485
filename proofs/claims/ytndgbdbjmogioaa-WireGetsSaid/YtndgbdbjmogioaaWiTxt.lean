/-
  Contracts of whole, signed and text of package wire's writer, and of signed and text of the document's answer. All else is left as it was.
-/
import Derived.Test.YtndgbdbjmogioaaWiNum
import Derived.Test.YtndgbdbjmogioaaWiStr
namespace Go.Proofs.Ytndgbdbjmogioaa.Wi
open Go.RowKit Go.Proofs.Ytndgbdbjmogioaa.Fl
set_option linter.unusedVariables false
set_option linter.unusedSimpArgs false

set_option maxHeartbeats 1000000
set_option maxRecDepth 100000
theorem signR_any (z : Nat) (n : Int) (h1 : -9223372036854775808 ≤ n) (h2 : n ≤ 9223372036854775807) (v : Value) (l : List UInt8) (w : World) (hz : z ≤ w.heap.size) (hl : (l ++ numL (zig n)).length ≤ 1000000) (hO : OB w z v l) :
    Calls Try.prog 28 #[v, .int .i64 n] w fun e w' => OutEnd z (l ++ numL (zig n)) v w w' e := by
  have C := Lib.hid (numR_any z (zig n) (zig_lt' h1 h2) v l w hz (by rwa [List.length_append] at hl) hO)
  by_cases h : n < 0
  · have HX := Lib.hid (zig_low h1 h)
    clear h1 h2 hz hl hO
    go_enter Try.func28, Try.ntmps28
    go_wp2_with fail
    rw [HX.out]
    refine Calls.mono C.out ?_
    rintro e w4 ⟨v4, rfl, ho4, hs4⟩
    go_wp2_with fail
    go_ret
    exact ⟨v4, rfl, ho4, hs4⟩
  · have HX := Lib.hid (zig_high h2 h)
    clear h1 h2 hz hl hO
    go_enter Try.func28, Try.ntmps28
    go_wp2_with fail
    rw [HX.out]
    refine Calls.mono C.out ?_
    rintro e w4 ⟨v4, rfl, ho4, hs4⟩
    go_wp2_with fail
    go_ret
    exact ⟨v4, rfl, ho4, hs4⟩
theorem textR_any (z : Nat) (s : ByteArray) (t : List UInt8) (ht : s.data.toList = t) (v : Value) (l : List UInt8) (w : World) (hz : z ≤ w.heap.size) (hl : (l ++ (numL t.length ++ t)).length ≤ 1000000) (hO : OB w z v l) :
    Calls Try.prog 29 #[v, .string s] w fun e w' => OutEnd z (l ++ (numL t.length ++ t)) v w w' e := by
  obtain ⟨i0, hi, hz0, hz1, hz2⟩ := info_parts infoB
  have hst : s.size = t.length := by rw [← ht]; simp
  simp only [List.length_append] at hl
  have HX := Lib.hid (wrapU (show (s.size : Int) = ((t.length : Nat) : Int) by rw [hst]) (show t.length < 18446744073709551616 by omega))
  have C := Lib.hid (numR_any z t.length (by omega) v l w hz (by omega) hO)
  have HT := Lib.hid ht
  have HS := Lib.hid hst
  have HL := Lib.hid hl
  have HZ := Lib.hid hz
  clear ht hst hl hz hO
  go_enter Try.func29, Try.ntmps29
  go_wp2_with fail
  rw [HX.out]
  refine Calls.mono C.out ?_
  rintro e w4 ⟨v4, rfl, ho4, hs4⟩
  have O4 := Lib.hid ho4
  have S4 := Lib.hid hs4
  clear ho4 hs4
  go_wp2_with (at_builtin; refine wpList_append_str_at rfl _ _ 34 9 rfl z 5 i0 Try.underlying34 Try.underlying9 hi hz0 hz1 hz2 v4 _ _ rfl O4.out s rfl (by have := HL.out; have := HS.out; rw [List.length_append]; unfold maxLen; omega) (by have := HL.out; have := HS.out; rw [List.length_append]; omega) (Nat.le_trans HZ.out S4.out.size) ?_; intro v' w3 hrow3 hg3 hat3)
  go_ret
  refine ⟨v', rfl, ?_, S4.out.grown hg3 hat3⟩
  rw [← List.append_assoc]
  exact ob_str HT.out hrow3
theorem whole_any (p n : Nat) (hn : n < 18446744073709551616) (v : Value) (l : List UInt8) (w : World) (hW : WrAt w p v l) (hl : (l ++ numL n).length ≤ 1000000) :
    Calls Try.prog 39 #[.pointer (some ⟨p, 0, none⟩), .int .i64 (n : Int)] w fun e w' => WrEnd p (l ++ numL n) v w w' e := by
  have C := Lib.hid (number_any p n hn v l w hW hl)
  have HX := Lib.hid (wrapU (show (n : Int) = ((n : Nat) : Int) from rfl) hn)
  clear hn hW hl
  go_enter Try.func39, Try.ntmps39
  go_wp2_with fail
  rw [HX.out]
  refine Calls.mono C.out ?_
  rintro e w4 ⟨rfl, h⟩
  go_wp2_with fail
  refine bodyPost_end (results_none rfl _ _ _) rfl ?_
  exact ⟨rfl, h⟩
theorem sign_any (p : Nat) (n : Int) (h1 : -9223372036854775808 ≤ n) (h2 : n ≤ 9223372036854775807) (v : Value) (l : List UInt8) (w : World) (hW : WrAt w p v l) (hl : (l ++ numL (zig n)).length ≤ 1000000) :
    Calls Try.prog 56 #[.pointer (some ⟨p, 0, none⟩), .int .i64 n] w fun e w' => WrEnd p (l ++ numL (zig n)) v w w' e := by
  have C := Lib.hid (number_any p (zig n) (zig_lt' h1 h2) v l w hW hl)
  have HX := Lib.hid (zig_xor h1 h2)
  clear h1 h2 hW hl
  go_enter Try.func56, Try.ntmps56
  go_wp2_with fail
  rw [HX.out]
  refine Calls.mono C.out ?_
  rintro e w4 ⟨rfl, h⟩
  go_wp2_with fail
  refine bodyPost_end (results_none rfl _ _ _) rfl ?_
  exact ⟨rfl, h⟩
theorem text_any (p : Nat) (s : ByteArray) (t : List UInt8) (ht : s.data.toList = t) (v : Value) (l : List UInt8) (w : World) (hW : WrAt w p v l) (hl : (l ++ (numL t.length ++ t)).length ≤ 1000000) :
    Calls Try.prog 41 #[.pointer (some ⟨p, 0, none⟩), .string s] w fun e w' => WrEnd p (l ++ (numL t.length ++ t)) v w w' e := by
  obtain ⟨i0, hi, hz0, hz1, hz2⟩ := info_parts infoB
  have hst : s.size = t.length := by rw [← ht]; simp
  simp only [List.length_append] at hl
  have C := Lib.hid (whole_any p t.length (by omega) v l w hW (by rw [List.length_append]; omega))
  rw [← hst] at C hl
  have HT := Lib.hid ht
  have HS := Lib.hid hst
  have HL := Lib.hid hl
  have HP := Lib.hid hW.lt
  clear ht hst hl hW
  go_enter Try.func41, Try.ntmps41
  go_wp2_with fail
  refine Calls.mono C.out ?_
  rintro e w4 ⟨rfl, v4, hw4, hs4⟩
  obtain ⟨c0, f0⟩ := hw4.cell
  have W4 := Lib.hid hw4
  have S4 := Lib.hid hs4
  clear hw4 hs4
  go_wp2_with (at_builtin; refine wpList_append_str_at rfl _ _ 34 9 rfl (p + 1) 5 i0 Try.underlying34 Try.underlying9 hi hz0 hz1 hz2 v4 _ _ rfl W4.out.2 s rfl (by have := HL.out; rw [List.length_append]; unfold maxLen; omega) (by have := HL.out; rw [List.length_append]; omega) W4.out.lt ?_; intro v' w3 hrow3 hg3 hat3; obtain ⟨c3, f3⟩ := W4.out.cell3 hg3; obtain ⟨a3, n3, k3, e3⟩ := own_slice hrow3; subst e3)
  obtain ⟨W5, S5⟩ := W4.out.put S4.out (ob_str HT.out hrow3) hg3 hat3
  refine bodyPost_end (results_none rfl _ _ _) rfl ?_
  refine ⟨rfl, _, ?_, S5⟩
  rw [← List.append_assoc, ← HS.out]
  exact W5
end Go.Proofs.Ytndgbdbjmogioaa.Wi
