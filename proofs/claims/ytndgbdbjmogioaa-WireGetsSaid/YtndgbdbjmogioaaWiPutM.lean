/-
  Contract of message of package wire's writer. All else is left as it was.
-/
import Derived.Test.YtndgbdbjmogioaaWiPutE
namespace Go.Proofs.Ytndgbdbjmogioaa.Wi
open Go.RowKit Go.Proofs.Ytndgbdbjmogioaa.Fl
set_option linter.unusedVariables false
set_option linter.unusedSimpArgs false

theorem put_1 (s v h x1 y1 x2 y2 : Int) (fl : List UInt8) (e : Ev) : putM ⟨1, s, v, h, x1, y1, x2, y2, fl, e⟩ = numL 1 ++ (numL s.toNat ++ (numL v.toNat ++ (numL h.toNat ++ (numL (zig x1) ++ (numL (zig y1) ++ (numL (zig x2) ++ (numL (zig y2) ++ (numL fl.length ++ fl)))))))) := rfl
theorem put_2 (s v h x1 y1 x2 y2 : Int) (fl : List UInt8) (e : Ev) : putM ⟨2, s, v, h, x1, y1, x2, y2, fl, e⟩ = numL 2 ++ (numL s.toNat ++ numL v.toNat) := rfl
theorem put_3 (s v h x1 y1 x2 y2 : Int) (fl : List UInt8) (e : Ev) : putM ⟨3, s, v, h, x1, y1, x2, y2, fl, e⟩ = numL 3 ++ evF.put e := rfl
theorem put_4 (s v h x1 y1 x2 y2 : Int) (fl : List UInt8) (e : Ev) : putM ⟨4, s, v, h, x1, y1, x2, y2, fl, e⟩ = numL 4 ++ (numL s.toNat ++ evF.put e) := rfl
set_option maxHeartbeats 2000000
set_option maxRecDepth 100000
theorem message_1 (p z : Nat) (x1 y1 x2 y2 : Int) (sn vn hn : Nat) (h_sn : sn ≤ 2147483647) (h_vn : vn ≤ 2147483647) (h_hn : hn ≤ 2147483647) (fl : List UInt8) (sf : ByteArray) (e : Ev) (a : Option Addr) (c : Nat) (v : Value) (l : List UInt8) (w : World) (hf : sf.data.toList = fl) (hfl : fl.length ≤ 500) (hc : ∀ n, n = x1 ∨ n = y1 ∨ n = x2 ∨ n = y2 → -9223372036854775808 ≤ n ∧ n ≤ 9223372036854775807) (hW : WrAt w p v l) (hl : (l ++ putM ⟨1, (sn : Int), (vn : Int), (hn : Int), x1, y1, x2, y2, fl, e⟩).length ≤ 1000000) :
    Calls Try.prog 20 #[.pointer (some ⟨p, 0, none⟩), .agg #[.int .i64 1, .int .i64 (sn : Int), .int .i64 (vn : Int), .int .i64 (hn : Int), .int .i64 x1, .int .i64 y1, .int .i64 x2, .int .i64 y2, .string sf, .int .i64 e.pub, .int .u32 (e.seq : Nat), .int .i64 e.x, .int .i64 e.y, .slice a e.attrs.length c]] w fun x w' => WrEnd p (l ++ putM ⟨1, (sn : Int), (vn : Int), (hn : Int), x1, y1, x2, y2, fl, e⟩) v w w' x := by
  rw [put_1] at hl ⊢
  simp only [Int.toNat_natCast] at hl ⊢
  obtain ⟨w1, hw1⟩ : ∃ W0 : World, W0 = w.alloc (.cells #[.int .i64 1, .int .i64 (sn : Int), .int .i64 (vn : Int), .int .i64 (hn : Int), .int .i64 x1, .int .i64 y1, .int .i64 x2, .int .i64 y2, .string sf, .int .i64 e.pub, .int .u32 (e.seq : Nat), .int .i64 e.x, .int .i64 e.y, .slice a e.attrs.length c] 31) := ⟨_, rfl⟩
  have HW := Lib.hid hw1
  have X1 := Lib.hid (show Bx w1 (some p) v w.heap.size 31 #[.int .i64 1, .int .i64 (sn : Int), .int .i64 (vn : Int), .int .i64 (hn : Int), .int .i64 x1, .int .i64 y1, .int .i64 x2, .int .i64 y2, .string sf, .int .i64 e.pub, .int .u32 (e.seq : Nat), .int .i64 e.x, .int .i64 e.y, .slice a e.attrs.length c] by rw [hw1]; exact Bx.new hW _ _)
  have W1 := Lib.hid (show WrAt w1 p v l by rw [hw1]; exact hW.later (below_alloc _ _))
  have S1 := Lib.hid (show Step w w1 (some p) v v by rw [hw1]; exact (Step.refl _ _ _).alloc _)
  have HL := Lib.hid hl
  have HZ := Lib.hid (show p < w.heap.size ∧ ∀ k, v.ownBlock = some k → p + 1 ≤ k from ⟨hW.lt, fun k hk => (hW.2.lt hk).1⟩)
  have HSN := Lib.hid (show sn < 18446744073709551616 by omega)
  have HVN := Lib.hid (show vn < 18446744073709551616 by omega)
  have HHN := Lib.hid (show hn < 18446744073709551616 by omega)
  have HF := Lib.hid hf
  have HC := Lib.hid hc
  clear hf hc hfl
  clear hW hw1 hl h_sn h_vn h_hn
  obtain ⟨c0, c1, c2, c3, c4, c5, c6, c7, c8, c9, c10, c11, c12, c13⟩ := X1.out.c14
  go_enter Try.func20, Try.ntmps20
  go_wp2_with fail
  rw [← HW.out]
  refine Calls.mono (whole_any p 1 (by omega) v _ w1 W1.out (by have := HL.out; simp only [List.length_append] at this ⊢; omega)) ?_
  rintro e1 w2 ⟨rfl, v2, hw2, hs2⟩
  have W2 := Lib.hid hw2
  have X2 := Lib.hid (X1.out.step hs2)
  have S2 := Lib.hid (S1.out.trans hs2)
  clear hw2 hs2 c0 c1 c2 c3 c4 c5 c6 c7 c8 c9 c10 c11 c12 c13
  obtain ⟨c0, c1, c2, c3, c4, c5, c6, c7, c8, c9, c10, c11, c12, c13⟩ := X2.out.c14
  go_wp2_with fail
  refine Calls.mono (whole_any p sn HSN.out v2 _ w2 W2.out (by have := HL.out; simp only [List.length_append] at this ⊢; omega)) ?_
  rintro e1 w3 ⟨rfl, v3, hw3, hs3⟩
  have W3 := Lib.hid hw3
  have X3 := Lib.hid (X2.out.step hs3)
  have S3 := Lib.hid (S2.out.trans hs3)
  clear hw3 hs3 c0 c1 c2 c3 c4 c5 c6 c7 c8 c9 c10 c11 c12 c13
  obtain ⟨c0, c1, c2, c3, c4, c5, c6, c7, c8, c9, c10, c11, c12, c13⟩ := X3.out.c14
  go_wp2_with fail
  refine Calls.mono (whole_any p vn HVN.out v3 _ w3 W3.out (by have := HL.out; simp only [List.length_append] at this ⊢; omega)) ?_
  rintro e1 w4 ⟨rfl, v4, hw4, hs4⟩
  have W4 := Lib.hid hw4
  have X4 := Lib.hid (X3.out.step hs4)
  have S4 := Lib.hid (S3.out.trans hs4)
  clear hw4 hs4 c0 c1 c2 c3 c4 c5 c6 c7 c8 c9 c10 c11 c12 c13
  obtain ⟨c0, c1, c2, c3, c4, c5, c6, c7, c8, c9, c10, c11, c12, c13⟩ := X4.out.c14
  go_wp2_with fail
  refine Calls.mono (whole_any p hn HHN.out v4 _ w4 W4.out (by have := HL.out; simp only [List.length_append] at this ⊢; omega)) ?_
  rintro e1 w5 ⟨rfl, v5, hw5, hs5⟩
  have W5 := Lib.hid hw5
  have X5 := Lib.hid (X4.out.step hs5)
  have S5 := Lib.hid (S4.out.trans hs5)
  clear hw5 hs5 c0 c1 c2 c3 c4 c5 c6 c7 c8 c9 c10 c11 c12 c13
  obtain ⟨c0, c1, c2, c3, c4, c5, c6, c7, c8, c9, c10, c11, c12, c13⟩ := X5.out.c14
  go_wp2_with fail
  refine Calls.mono (rect_any p x1 y1 x2 y2 HC.out v5 _ w5 W5.out (by have := HL.out; simp only [List.length_append] at this ⊢; omega)) ?_
  rintro e1 w6 ⟨rfl, v6, hw6, hs6⟩
  have W6 := Lib.hid hw6
  have X6 := Lib.hid (X5.out.step hs6)
  have S6 := Lib.hid (S5.out.trans hs6)
  clear hw6 hs6 c0 c1 c2 c3 c4 c5 c6 c7 c8 c9 c10 c11 c12 c13
  obtain ⟨c0, c1, c2, c3, c4, c5, c6, c7, c8, c9, c10, c11, c12, c13⟩ := X6.out.c14
  go_wp2_with fail
  refine Calls.mono (text_any p sf fl HF.out v6 _ w6 W6.out (by have := HL.out; simp only [List.length_append] at this ⊢; omega)) ?_
  rintro e1 w7 ⟨rfl, v7, hw7, hs7⟩
  have W7 := Lib.hid hw7
  have X7 := Lib.hid (X6.out.step hs7)
  have S7 := Lib.hid (S6.out.trans hs7)
  clear hw7 hs7 c0 c1 c2 c3 c4 c5 c6 c7 c8 c9 c10 c11 c12 c13
  obtain ⟨c0, c1, c2, c3, c4, c5, c6, c7, c8, c9, c10, c11, c12, c13⟩ := X7.out.c14
  go_wp2_with fail
  refine bodyPost_end (results_none rfl _ _ _) rfl ?_
  refine ⟨rfl, v7, ?_, S7.out⟩
  have := W7.out
  simpa only [List.append_assoc] using this
theorem message_2 (p z : Nat) (x1 y1 x2 y2 H : Int) (sn vn : Nat) (h_sn : sn ≤ 2147483647) (h_vn : vn ≤ 2147483647) (fl : List UInt8) (sf : ByteArray) (e : Ev) (a : Option Addr) (c : Nat) (v : Value) (l : List UInt8) (w : World)  (hW : WrAt w p v l) (hl : (l ++ putM ⟨2, (sn : Int), (vn : Int), H, x1, y1, x2, y2, fl, e⟩).length ≤ 1000000) :
    Calls Try.prog 20 #[.pointer (some ⟨p, 0, none⟩), .agg #[.int .i64 2, .int .i64 (sn : Int), .int .i64 (vn : Int), .int .i64 H, .int .i64 x1, .int .i64 y1, .int .i64 x2, .int .i64 y2, .string sf, .int .i64 e.pub, .int .u32 (e.seq : Nat), .int .i64 e.x, .int .i64 e.y, .slice a e.attrs.length c]] w fun x w' => WrEnd p (l ++ putM ⟨2, (sn : Int), (vn : Int), H, x1, y1, x2, y2, fl, e⟩) v w w' x := by
  rw [put_2] at hl ⊢
  simp only [Int.toNat_natCast] at hl ⊢
  obtain ⟨w1, hw1⟩ : ∃ W0 : World, W0 = w.alloc (.cells #[.int .i64 2, .int .i64 (sn : Int), .int .i64 (vn : Int), .int .i64 H, .int .i64 x1, .int .i64 y1, .int .i64 x2, .int .i64 y2, .string sf, .int .i64 e.pub, .int .u32 (e.seq : Nat), .int .i64 e.x, .int .i64 e.y, .slice a e.attrs.length c] 31) := ⟨_, rfl⟩
  have HW := Lib.hid hw1
  have X1 := Lib.hid (show Bx w1 (some p) v w.heap.size 31 #[.int .i64 2, .int .i64 (sn : Int), .int .i64 (vn : Int), .int .i64 H, .int .i64 x1, .int .i64 y1, .int .i64 x2, .int .i64 y2, .string sf, .int .i64 e.pub, .int .u32 (e.seq : Nat), .int .i64 e.x, .int .i64 e.y, .slice a e.attrs.length c] by rw [hw1]; exact Bx.new hW _ _)
  have W1 := Lib.hid (show WrAt w1 p v l by rw [hw1]; exact hW.later (below_alloc _ _))
  have S1 := Lib.hid (show Step w w1 (some p) v v by rw [hw1]; exact (Step.refl _ _ _).alloc _)
  have HL := Lib.hid hl
  have HZ := Lib.hid (show p < w.heap.size ∧ ∀ k, v.ownBlock = some k → p + 1 ≤ k from ⟨hW.lt, fun k hk => (hW.2.lt hk).1⟩)
  have HSN := Lib.hid (show sn < 18446744073709551616 by omega)
  have HVN := Lib.hid (show vn < 18446744073709551616 by omega)
  clear hW hw1 hl h_sn h_vn
  obtain ⟨c0, c1, c2, c3, c4, c5, c6, c7, c8, c9, c10, c11, c12, c13⟩ := X1.out.c14
  go_enter Try.func20, Try.ntmps20
  go_wp2_with fail
  rw [← HW.out]
  refine Calls.mono (whole_any p 2 (by omega) v _ w1 W1.out (by have := HL.out; simp only [List.length_append] at this ⊢; omega)) ?_
  rintro e1 w2 ⟨rfl, v2, hw2, hs2⟩
  have W2 := Lib.hid hw2
  have X2 := Lib.hid (X1.out.step hs2)
  have S2 := Lib.hid (S1.out.trans hs2)
  clear hw2 hs2 c0 c1 c2 c3 c4 c5 c6 c7 c8 c9 c10 c11 c12 c13
  obtain ⟨c0, c1, c2, c3, c4, c5, c6, c7, c8, c9, c10, c11, c12, c13⟩ := X2.out.c14
  go_wp2_with fail
  refine Calls.mono (whole_any p sn HSN.out v2 _ w2 W2.out (by have := HL.out; simp only [List.length_append] at this ⊢; omega)) ?_
  rintro e1 w3 ⟨rfl, v3, hw3, hs3⟩
  have W3 := Lib.hid hw3
  have X3 := Lib.hid (X2.out.step hs3)
  have S3 := Lib.hid (S2.out.trans hs3)
  clear hw3 hs3 c0 c1 c2 c3 c4 c5 c6 c7 c8 c9 c10 c11 c12 c13
  obtain ⟨c0, c1, c2, c3, c4, c5, c6, c7, c8, c9, c10, c11, c12, c13⟩ := X3.out.c14
  go_wp2_with fail
  refine Calls.mono (whole_any p vn HVN.out v3 _ w3 W3.out (by have := HL.out; simp only [List.length_append] at this ⊢; omega)) ?_
  rintro e1 w4 ⟨rfl, v4, hw4, hs4⟩
  have W4 := Lib.hid hw4
  have X4 := Lib.hid (X3.out.step hs4)
  have S4 := Lib.hid (S3.out.trans hs4)
  clear hw4 hs4 c0 c1 c2 c3 c4 c5 c6 c7 c8 c9 c10 c11 c12 c13
  obtain ⟨c0, c1, c2, c3, c4, c5, c6, c7, c8, c9, c10, c11, c12, c13⟩ := X4.out.c14
  go_wp2_with fail
  refine bodyPost_end (results_none rfl _ _ _) rfl ?_
  refine ⟨rfl, v4, ?_, S4.out⟩
  have := W4.out
  simpa only [List.append_assoc] using this
theorem message_3 (p z : Nat) (x1 y1 x2 y2 S V H : Int)   (fl : List UInt8) (sf : ByteArray) (e : Ev) (a : Option Addr) (c : Nat) (v : Value) (l : List UInt8) (w : World) (he : evB e = true) (hr : evR e) (hz : z ≤ p) (hA : AttsAt w (Old z) a e.attrs) (hW : WrAt w p v l) (hl : (l ++ putM ⟨3, S, V, H, x1, y1, x2, y2, fl, e⟩).length ≤ 1000000) :
    Calls Try.prog 20 #[.pointer (some ⟨p, 0, none⟩), .agg #[.int .i64 3, .int .i64 S, .int .i64 V, .int .i64 H, .int .i64 x1, .int .i64 y1, .int .i64 x2, .int .i64 y2, .string sf, .int .i64 e.pub, .int .u32 (e.seq : Nat), .int .i64 e.x, .int .i64 e.y, .slice a e.attrs.length c]] w fun x w' => WrEnd p (l ++ putM ⟨3, S, V, H, x1, y1, x2, y2, fl, e⟩) v w w' x := by
  rw [put_3] at hl ⊢
  skip
  obtain ⟨w1, hw1⟩ : ∃ W0 : World, W0 = w.alloc (.cells #[.int .i64 3, .int .i64 S, .int .i64 V, .int .i64 H, .int .i64 x1, .int .i64 y1, .int .i64 x2, .int .i64 y2, .string sf, .int .i64 e.pub, .int .u32 (e.seq : Nat), .int .i64 e.x, .int .i64 e.y, .slice a e.attrs.length c] 31) := ⟨_, rfl⟩
  have HW := Lib.hid hw1
  have X1 := Lib.hid (show Bx w1 (some p) v w.heap.size 31 #[.int .i64 3, .int .i64 S, .int .i64 V, .int .i64 H, .int .i64 x1, .int .i64 y1, .int .i64 x2, .int .i64 y2, .string sf, .int .i64 e.pub, .int .u32 (e.seq : Nat), .int .i64 e.x, .int .i64 e.y, .slice a e.attrs.length c] by rw [hw1]; exact Bx.new hW _ _)
  have W1 := Lib.hid (show WrAt w1 p v l by rw [hw1]; exact hW.later (below_alloc _ _))
  have S1 := Lib.hid (show Step w w1 (some p) v v by rw [hw1]; exact (Step.refl _ _ _).alloc _)
  have HL := Lib.hid hl
  have HZ := Lib.hid (show p < w.heap.size ∧ ∀ k, v.ownBlock = some k → p + 1 ≤ k from ⟨hW.lt, fun k hk => (hW.2.lt hk).1⟩)
  have HE := Lib.hid he
  have HR := Lib.hid hr
  have HZP := Lib.hid hz
  have HA := Lib.hid hA
  clear he hr hz hA
  clear hW hw1 hl 
  obtain ⟨c0, c1, c2, c3, c4, c5, c6, c7, c8, c9, c10, c11, c12, c13⟩ := X1.out.c14
  go_enter Try.func20, Try.ntmps20
  go_wp2_with fail
  rw [← HW.out]
  refine Calls.mono (whole_any p 3 (by omega) v _ w1 W1.out (by have := HL.out; simp only [List.length_append] at this ⊢; omega)) ?_
  rintro e1 w2 ⟨rfl, v2, hw2, hs2⟩
  have W2 := Lib.hid hw2
  have X2 := Lib.hid (X1.out.step hs2)
  have S2 := Lib.hid (S1.out.trans hs2)
  clear hw2 hs2 c0 c1 c2 c3 c4 c5 c6 c7 c8 c9 c10 c11 c12 c13
  obtain ⟨c0, c1, c2, c3, c4, c5, c6, c7, c8, c9, c10, c11, c12, c13⟩ := X2.out.c14
  go_wp2_with fail
  refine Calls.mono (event_any p z e HE.out HR.out a c v2 _ w2 HZP.out (HA.out.later (S2.out.old (z := z) (by have := HZ.out; have := HZP.out; omega) (fun k hk => by cases hk; exact HZP.out) (fun k hk => by have := HZ.out.2 k hk; have := HZP.out; omega))) W2.out (by have := HL.out; simp only [List.length_append] at this ⊢; omega)) ?_
  rintro e1 w3 ⟨rfl, v3, hw3, hs3⟩
  have W3 := Lib.hid hw3
  have X3 := Lib.hid (X2.out.step hs3)
  have S3 := Lib.hid (S2.out.trans hs3)
  clear hw3 hs3 c0 c1 c2 c3 c4 c5 c6 c7 c8 c9 c10 c11 c12 c13
  obtain ⟨c0, c1, c2, c3, c4, c5, c6, c7, c8, c9, c10, c11, c12, c13⟩ := X3.out.c14
  go_wp2_with fail
  refine bodyPost_end (results_none rfl _ _ _) rfl ?_
  refine ⟨rfl, v3, ?_, S3.out⟩
  have := W3.out
  simpa only [List.append_assoc] using this
theorem message_4 (p z : Nat) (x1 y1 x2 y2 V H : Int) (sn : Nat) (h_sn : sn ≤ 2147483647) (fl : List UInt8) (sf : ByteArray) (e : Ev) (a : Option Addr) (c : Nat) (v : Value) (l : List UInt8) (w : World) (he : evB e = true) (hr : evR e) (hz : z ≤ p) (hA : AttsAt w (Old z) a e.attrs) (hW : WrAt w p v l) (hl : (l ++ putM ⟨4, (sn : Int), V, H, x1, y1, x2, y2, fl, e⟩).length ≤ 1000000) :
    Calls Try.prog 20 #[.pointer (some ⟨p, 0, none⟩), .agg #[.int .i64 4, .int .i64 (sn : Int), .int .i64 V, .int .i64 H, .int .i64 x1, .int .i64 y1, .int .i64 x2, .int .i64 y2, .string sf, .int .i64 e.pub, .int .u32 (e.seq : Nat), .int .i64 e.x, .int .i64 e.y, .slice a e.attrs.length c]] w fun x w' => WrEnd p (l ++ putM ⟨4, (sn : Int), V, H, x1, y1, x2, y2, fl, e⟩) v w w' x := by
  rw [put_4] at hl ⊢
  simp only [Int.toNat_natCast] at hl ⊢
  obtain ⟨w1, hw1⟩ : ∃ W0 : World, W0 = w.alloc (.cells #[.int .i64 4, .int .i64 (sn : Int), .int .i64 V, .int .i64 H, .int .i64 x1, .int .i64 y1, .int .i64 x2, .int .i64 y2, .string sf, .int .i64 e.pub, .int .u32 (e.seq : Nat), .int .i64 e.x, .int .i64 e.y, .slice a e.attrs.length c] 31) := ⟨_, rfl⟩
  have HW := Lib.hid hw1
  have X1 := Lib.hid (show Bx w1 (some p) v w.heap.size 31 #[.int .i64 4, .int .i64 (sn : Int), .int .i64 V, .int .i64 H, .int .i64 x1, .int .i64 y1, .int .i64 x2, .int .i64 y2, .string sf, .int .i64 e.pub, .int .u32 (e.seq : Nat), .int .i64 e.x, .int .i64 e.y, .slice a e.attrs.length c] by rw [hw1]; exact Bx.new hW _ _)
  have W1 := Lib.hid (show WrAt w1 p v l by rw [hw1]; exact hW.later (below_alloc _ _))
  have S1 := Lib.hid (show Step w w1 (some p) v v by rw [hw1]; exact (Step.refl _ _ _).alloc _)
  have HL := Lib.hid hl
  have HZ := Lib.hid (show p < w.heap.size ∧ ∀ k, v.ownBlock = some k → p + 1 ≤ k from ⟨hW.lt, fun k hk => (hW.2.lt hk).1⟩)
  have HSN := Lib.hid (show sn < 18446744073709551616 by omega)
  have HE := Lib.hid he
  have HR := Lib.hid hr
  have HZP := Lib.hid hz
  have HA := Lib.hid hA
  clear he hr hz hA
  clear hW hw1 hl h_sn
  obtain ⟨c0, c1, c2, c3, c4, c5, c6, c7, c8, c9, c10, c11, c12, c13⟩ := X1.out.c14
  go_enter Try.func20, Try.ntmps20
  go_wp2_with fail
  rw [← HW.out]
  refine Calls.mono (whole_any p 4 (by omega) v _ w1 W1.out (by have := HL.out; simp only [List.length_append] at this ⊢; omega)) ?_
  rintro e1 w2 ⟨rfl, v2, hw2, hs2⟩
  have W2 := Lib.hid hw2
  have X2 := Lib.hid (X1.out.step hs2)
  have S2 := Lib.hid (S1.out.trans hs2)
  clear hw2 hs2 c0 c1 c2 c3 c4 c5 c6 c7 c8 c9 c10 c11 c12 c13
  obtain ⟨c0, c1, c2, c3, c4, c5, c6, c7, c8, c9, c10, c11, c12, c13⟩ := X2.out.c14
  go_wp2_with fail
  refine Calls.mono (whole_any p sn HSN.out v2 _ w2 W2.out (by have := HL.out; simp only [List.length_append] at this ⊢; omega)) ?_
  rintro e1 w3 ⟨rfl, v3, hw3, hs3⟩
  have W3 := Lib.hid hw3
  have X3 := Lib.hid (X2.out.step hs3)
  have S3 := Lib.hid (S2.out.trans hs3)
  clear hw3 hs3 c0 c1 c2 c3 c4 c5 c6 c7 c8 c9 c10 c11 c12 c13
  obtain ⟨c0, c1, c2, c3, c4, c5, c6, c7, c8, c9, c10, c11, c12, c13⟩ := X3.out.c14
  go_wp2_with fail
  refine Calls.mono (event_any p z e HE.out HR.out a c v3 _ w3 HZP.out (HA.out.later (S3.out.old (z := z) (by have := HZ.out; have := HZP.out; omega) (fun k hk => by cases hk; exact HZP.out) (fun k hk => by have := HZ.out.2 k hk; have := HZP.out; omega))) W3.out (by have := HL.out; simp only [List.length_append] at this ⊢; omega)) ?_
  rintro e1 w4 ⟨rfl, v4, hw4, hs4⟩
  have W4 := Lib.hid hw4
  have X4 := Lib.hid (X3.out.step hs4)
  have S4 := Lib.hid (S3.out.trans hs4)
  clear hw4 hs4 c0 c1 c2 c3 c4 c5 c6 c7 c8 c9 c10 c11 c12 c13
  obtain ⟨c0, c1, c2, c3, c4, c5, c6, c7, c8, c9, c10, c11, c12, c13⟩ := X4.out.c14
  go_wp2_with fail
  refine bodyPost_end (results_none rfl _ _ _) rfl ?_
  refine ⟨rfl, v4, ?_, S4.out⟩
  have := W4.out
  simpa only [List.append_assoc] using this
theorem coord_rng {m : Msg} (h : coordR m = true) : ∀ n, n = m.x1 ∨ n = m.y1 ∨ n = m.x2 ∨ n = m.y2 → -9223372036854775808 ≤ n ∧ n ≤ 9223372036854775807 := by
  simp only [coordR, coordB, Bool.and_eq_true, decide_eq_true_eq] at h
  rintro n (rfl | rfl | rfl | rfl) <;> omega
/-- Of any message that may be. -/
theorem message_any (p z : Nat) (m : Msg) (hm : msgB m = true) (hr : evR m.ev) (sf : ByteArray) (hf : sf.data.toList = m.flt) (a : Option Addr) (c : Nat) (v : Value) (l : List UInt8) (w : World) (hz : z ≤ p) (hA : AttsAt w (Old z) a m.ev.attrs) (hW : WrAt w p v l) (hl : (l ++ putM m).length ≤ 1000000) :
    Calls Try.prog 20 #[.pointer (some ⟨p, 0, none⟩), .agg #[.int .i64 m.kind, .int .i64 m.sub, .int .i64 m.ver, .int .i64 m.home, .int .i64 m.x1, .int .i64 m.y1, .int .i64 m.x2, .int .i64 m.y2, .string sf, .int .i64 m.ev.pub, .int .u32 (m.ev.seq : Nat), .int .i64 m.ev.x, .int .i64 m.ev.y, .slice a m.ev.attrs.length c]] w fun x w' => WrEnd p (l ++ putM m) v w w' x := by
  obtain ⟨k, s, vr, hm', x1, y1, x2, y2, fl, e⟩ := m
  simp only at hr hf hA ⊢
  unfold msgB at hm
  simp only [Bool.and_eq_true, decide_eq_true_eq] at hm
  obtain ⟨⟨⟨⟨h1, h2⟩, h3⟩, h4⟩, h⟩ := hm
  obtain ⟨sn, rfl, hsn⟩ := few_nat h1
  obtain ⟨vn, rfl, hvn⟩ := few_nat h2
  obtain ⟨hn, rfl, hhn⟩ := few_nat h3
  split at h
  · next hk =>
    subst hk
    rw [Bool.and_eq_true] at h
    exact message_1 p z x1 y1 x2 y2 sn vn hn hsn hvn hhn fl sf e a c v l w hf h4 (coord_rng h.1) hW hl
  · split at h
    · next hk =>
      subst hk
      exact message_2 p z x1 y1 x2 y2 hn sn vn hsn hvn fl sf e a c v l w hW hl
    · split at h
      · next hk =>
        subst hk
        rw [Bool.and_eq_true] at h
        exact message_3 p z x1 y1 x2 y2 sn vn hn fl sf e a c v l w h.2 hr hz hA hW hl
      · split at h
        · next hk =>
          subst hk
          rw [Bool.and_eq_true] at h
          exact message_4 p z x1 y1 x2 y2 vn hn sn hsn fl sf e a c v l w h.2 hr hz hA hW hl
        · cases h
end Go.Proofs.Ytndgbdbjmogioaa.Wi
