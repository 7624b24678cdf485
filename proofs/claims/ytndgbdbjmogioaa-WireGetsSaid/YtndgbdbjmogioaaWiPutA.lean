/-
  Contracts of attr and rect of package wire's writer. All else is left as it was.
-/
import Derived.Test.YtndgbdbjmogioaaWiMsg
namespace Go.Proofs.Ytndgbdbjmogioaa.Wi
open Go.RowKit Go.Proofs.Ytndgbdbjmogioaa.Fl
set_option linter.unusedVariables false
set_option linter.unusedSimpArgs false

set_option maxHeartbeats 1000000
set_option maxRecDepth 100000
theorem attr_any (p : Nat) (nm st : List UInt8) (tx : Bool) (nu : Int) (hr : -9223372036854775808 ≤ nu ∧ nu ≤ 9223372036854775807) (sn ss : ByteArray) (hn : sn.data.toList = nm) (hs : ss.data.toList = st) (v : Value) (l : List UInt8) (w : World) (hW : WrAt w p v l) (hl : (l ++ attF.put ⟨nm, tx, nu, st⟩).length ≤ 1000000) :
    Calls Try.prog 57 #[.pointer (some ⟨p, 0, none⟩), .agg #[.string sn, .bool tx, .int .i64 nu, .string ss]] w fun e w' => WrEnd p (l ++ attF.put ⟨nm, tx, nu, st⟩) v w w' e := by
  obtain ⟨w1, hw1⟩ : ∃ x, x = w.alloc (.cells #[.string sn, .bool tx, .int .i64 nu, .string ss] 50) := ⟨_, rfl⟩
  have HW := Lib.hid hw1
  have X1 := Lib.hid (show Bx w1 (some p) v w.heap.size 50 #[.string sn, .bool tx, .int .i64 nu, .string ss] by rw [hw1]; exact Bx.new hW _ _)
  have W1 := Lib.hid (show WrAt w1 p v l by rw [hw1]; exact hW.later (below_alloc _ _))
  have S1 := Lib.hid (show Step w w1 (some p) v v by rw [hw1]; exact (Step.refl _ _ _).alloc _)
  have HN := Lib.hid hn
  have HS := Lib.hid hs
  have HR := Lib.hid hr
  clear hW hw1 hn hs hr
  cases tx
  · rw [att_num] at hl ⊢
    have HL := Lib.hid hl
    clear hl
    obtain ⟨c0, c1, c2, c3⟩ := X1.out.c4
    go_enter Try.func57, Try.ntmps57
    go_wp2_with fail
    rw [← HW.out]
    refine Calls.mono (text_any p sn nm HN.out v l w1 W1.out (by have := HL.out; simp only [List.length_append] at this ⊢; omega)) ?_
    rintro e w2 ⟨rfl, v2, hw2, hs2⟩
    have W2 := Lib.hid hw2
    have X2 := Lib.hid (X1.out.step hs2)
    have S2 := Lib.hid (S1.out.trans hs2)
    clear hw2 hs2 c0 c1 c2 c3
    obtain ⟨c0, c1, c2, c3⟩ := X2.out.c4
    go_wp2_with fail
    refine Calls.mono (whole_any p 0 (by omega) v2 _ w2 W2.out (by have := HL.out; simp only [List.length_append] at this ⊢; omega)) ?_
    rintro e w3 ⟨rfl, v3, hw3, hs3⟩
    have W3 := Lib.hid hw3
    have X3 := Lib.hid (X2.out.step hs3)
    have S3 := Lib.hid (S2.out.trans hs3)
    clear hw3 hs3 c0 c1 c2 c3
    obtain ⟨c0, c1, c2, c3⟩ := X3.out.c4
    go_wp2_with fail
    refine Calls.mono (sign_any p nu HR.out.1 HR.out.2 v3 _ w3 W3.out (by have := HL.out; simp only [List.length_append] at this ⊢; omega)) ?_
    rintro e w4 ⟨rfl, v4, hw4, hs4⟩
    have W4 := Lib.hid hw4
    have S4 := Lib.hid (S3.out.trans hs4)
    clear hw4 hs4
    go_wp2_with fail
    refine bodyPost_end (results_none rfl _ _ _) rfl ?_
    refine ⟨rfl, v4, ?_, S4.out⟩
    have := W4.out
    simpa only [List.append_assoc] using this
  · rw [att_text] at hl ⊢
    have HL := Lib.hid hl
    clear hl
    obtain ⟨c0, c1, c2, c3⟩ := X1.out.c4
    go_enter Try.func57, Try.ntmps57
    go_wp2_with fail
    rw [← HW.out]
    refine Calls.mono (text_any p sn nm HN.out v l w1 W1.out (by have := HL.out; simp only [List.length_append] at this ⊢; omega)) ?_
    rintro e w2 ⟨rfl, v2, hw2, hs2⟩
    have W2 := Lib.hid hw2
    have X2 := Lib.hid (X1.out.step hs2)
    have S2 := Lib.hid (S1.out.trans hs2)
    clear hw2 hs2 c0 c1 c2 c3
    obtain ⟨c0, c1, c2, c3⟩ := X2.out.c4
    go_wp2_with fail
    refine Calls.mono (whole_any p 1 (by omega) v2 _ w2 W2.out (by have := HL.out; simp only [List.length_append] at this ⊢; omega)) ?_
    rintro e w3 ⟨rfl, v3, hw3, hs3⟩
    have W3 := Lib.hid hw3
    have X3 := Lib.hid (X2.out.step hs3)
    have S3 := Lib.hid (S2.out.trans hs3)
    clear hw3 hs3 c0 c1 c2 c3
    obtain ⟨c0, c1, c2, c3⟩ := X3.out.c4
    go_wp2_with fail
    refine Calls.mono (text_any p ss st HS.out v3 _ w3 W3.out (by have := HL.out; simp only [List.length_append] at this ⊢; omega)) ?_
    rintro e w4 ⟨rfl, v4, hw4, hs4⟩
    have W4 := Lib.hid hw4
    have S4 := Lib.hid (S3.out.trans hs4)
    clear hw4 hs4
    go_wp2_with fail
    refine bodyPost_end (results_none rfl _ _ _) rfl ?_
    refine ⟨rfl, v4, ?_, S4.out⟩
    have := W4.out
    simpa only [List.append_assoc] using this
theorem rect_any (p : Nat) (x1 y1 x2 y2 : Int) (h : ∀ n, n = x1 ∨ n = y1 ∨ n = x2 ∨ n = y2 → -9223372036854775808 ≤ n ∧ n ≤ 9223372036854775807) (v : Value) (l : List UInt8) (w : World) (hW : WrAt w p v l) (hl : (l ++ (numL (zig x1) ++ (numL (zig y1) ++ (numL (zig x2) ++ numL (zig y2))))).length ≤ 1000000) :
    Calls Try.prog 40 #[.pointer (some ⟨p, 0, none⟩), .agg #[.int .i64 x1, .int .i64 y1, .int .i64 x2, .int .i64 y2]] w fun e w' => WrEnd p (l ++ (numL (zig x1) ++ (numL (zig y1) ++ (numL (zig x2) ++ numL (zig y2))))) v w w' e := by
  obtain ⟨w1, hw1⟩ : ∃ x, x = w.alloc (.cells #[.int .i64 x1, .int .i64 y1, .int .i64 x2, .int .i64 y2] 23) := ⟨_, rfl⟩
  have HW := Lib.hid hw1
  have X1 := Lib.hid (show Bx w1 (some p) v w.heap.size 23 #[.int .i64 x1, .int .i64 y1, .int .i64 x2, .int .i64 y2] by rw [hw1]; exact Bx.new hW _ _)
  have W1 := Lib.hid (show WrAt w1 p v l by rw [hw1]; exact hW.later (below_alloc _ _))
  have S1 := Lib.hid (show Step w w1 (some p) v v by rw [hw1]; exact (Step.refl _ _ _).alloc _)
  have HL := Lib.hid hl
  have HR := Lib.hid h
  clear hW hw1 h hl
  obtain ⟨c0, c1, c2, c3⟩ := X1.out.c4
  go_enter Try.func40, Try.ntmps40
  go_wp2_with fail
  rw [← HW.out]
  refine Calls.mono (sign_any p x1 (HR.out _ (by simp)).1 (HR.out _ (by simp)).2 v _ w1 W1.out (by have := HL.out; simp only [List.length_append] at this ⊢; omega)) ?_
  rintro e w2 ⟨rfl, v2, hw2, hs2⟩
  have W2 := Lib.hid hw2
  have X2 := Lib.hid (X1.out.step hs2)
  have S2 := Lib.hid (S1.out.trans hs2)
  clear hw2 hs2 c0 c1 c2 c3
  obtain ⟨c0, c1, c2, c3⟩ := X2.out.c4
  go_wp2_with fail
  refine Calls.mono (sign_any p y1 (HR.out _ (by simp)).1 (HR.out _ (by simp)).2 v2 _ w2 W2.out (by have := HL.out; simp only [List.length_append] at this ⊢; omega)) ?_
  rintro e w3 ⟨rfl, v3, hw3, hs3⟩
  have W3 := Lib.hid hw3
  have X3 := Lib.hid (X2.out.step hs3)
  have S3 := Lib.hid (S2.out.trans hs3)
  clear hw3 hs3 c0 c1 c2 c3
  obtain ⟨c0, c1, c2, c3⟩ := X3.out.c4
  go_wp2_with fail
  refine Calls.mono (sign_any p x2 (HR.out _ (by simp)).1 (HR.out _ (by simp)).2 v3 _ w3 W3.out (by have := HL.out; simp only [List.length_append] at this ⊢; omega)) ?_
  rintro e w4 ⟨rfl, v4, hw4, hs4⟩
  have W4 := Lib.hid hw4
  have X4 := Lib.hid (X3.out.step hs4)
  have S4 := Lib.hid (S3.out.trans hs4)
  clear hw4 hs4 c0 c1 c2 c3
  obtain ⟨c0, c1, c2, c3⟩ := X4.out.c4
  go_wp2_with fail
  refine Calls.mono (sign_any p y2 (HR.out _ (by simp)).1 (HR.out _ (by simp)).2 v4 _ w4 W4.out (by have := HL.out; simp only [List.length_append] at this ⊢; omega)) ?_
  rintro e w5 ⟨rfl, v5, hw5, hs5⟩
  have W5 := Lib.hid hw5
  have X5 := Lib.hid (X4.out.step hs5)
  have S5 := Lib.hid (S4.out.trans hs5)
  clear hw5 hs5 c0 c1 c2 c3
  obtain ⟨c0, c1, c2, c3⟩ := X5.out.c4
  go_wp2_with fail
  refine bodyPost_end (results_none rfl _ _ _) rfl ?_
  refine ⟨rfl, v5, ?_, S5.out⟩
  have := W5.out
  simpa only [List.append_assoc] using this
end Go.Proofs.Ytndgbdbjmogioaa.Wi
