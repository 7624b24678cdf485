/-
  Contract of Put of the document's answer for layer 10, of a message that may be: its bytes. Memory that was there is left as it was.
-/
import Derived.Test.YtndgbdbjmogioaaWiBytesR
import Derived.Test.YtndgbdbjmogioaaWiPutM
namespace Go.Proofs.Ytndgbdbjmogioaa.Wi
open Go.RowKit Go.Proofs.Ytndgbdbjmogioaa.Fl
set_option linter.unusedVariables false
set_option linter.unusedSimpArgs false

theorem ob_one (w : World) {z n : Nat} (hz : z ≤ w.heap.size) (h : n < 256) : OB (w.alloc (.cells #[.int .u8 (n : Int)] 5)) z (.slice (some ⟨w.heap.size, 0, none⟩) 1 1) (numL n) ∨ 128 ≤ n := by
  rcases Nat.lt_or_ge n 128 with h1 | h1
  · left
    rw [numL_small h1]
    refine ⟨rfl, Or.inr ⟨w.heap.size, 1, _, rfl, hz, heap_alloc_new w _, Nat.le_refl _, by unfold maxLen; omega, rfl, ?_⟩⟩
    simp [byC]
    omega
  · exact Or.inr h1
/-- What Put of the document's answer tells. -/
def PutREnd (m : Msg) (w w' : World) (e : Ending) : Prop := ∃ v', e = .returned v' ∧ OB w' w.heap.size v' (putM m) ∧ Below w.heap.size w w'
set_option maxHeartbeats 4000000
set_option maxRecDepth 100000
theorem putR_1 (x1 y1 x2 y2 : Int) (sn vn hn : Nat) (h_sn : sn ≤ 2147483647) (h_vn : vn ≤ 2147483647) (h_hn : hn ≤ 2147483647) (fl : List UInt8) (sf : ByteArray) (e : Ev) (a : Option Addr) (c : Nat) (w : World) (hf : sf.data.toList = fl) (hfl : fl.length ≤ 500) (hc : ∀ n, n = x1 ∨ n = y1 ∨ n = x2 ∨ n = y2 → -9223372036854775808 ≤ n ∧ n ≤ 9223372036854775807) (hl : (putM ⟨1, (sn : Int), (vn : Int), (hn : Int), x1, y1, x2, y2, fl, e⟩).length ≤ 1000000) :
    Calls Try.prog 13 #[.agg #[.int .i64 1, .int .i64 (sn : Int), .int .i64 (vn : Int), .int .i64 (hn : Int), .int .i64 x1, .int .i64 y1, .int .i64 x2, .int .i64 y2, .string sf, .int .i64 e.pub, .int .u32 (e.seq : Nat), .int .i64 e.x, .int .i64 e.y, .slice a e.attrs.length c]] w fun x w' => PutREnd ⟨1, (sn : Int), (vn : Int), (hn : Int), x1, y1, x2, y2, fl, e⟩ w w' x := by
  obtain ⟨Z, hZ⟩ : ∃ Z, Z = w.heap.size := ⟨_, rfl⟩
  obtain ⟨v1, hv1⟩ : ∃ v : Value, v = .slice (some ⟨w.heap.size + 1, 0, none⟩) 1 1 := ⟨_, rfl⟩
  unfold PutREnd
  rw [put_1] at hl ⊢
  simp only [Int.toNat_natCast] at hl ⊢
  obtain ⟨w0, hw0⟩ : ∃ W0 : World, W0 = w.alloc (.cells #[.int .i64 1, .int .i64 (sn : Int), .int .i64 (vn : Int), .int .i64 (hn : Int), .int .i64 x1, .int .i64 y1, .int .i64 x2, .int .i64 y2, .string sf, .int .i64 e.pub, .int .u32 (e.seq : Nat), .int .i64 e.x, .int .i64 e.y, .slice a e.attrs.length c] 31) := ⟨_, rfl⟩
  have hz0 : w0.heap.size = w.heap.size + 1 := by rw [hw0]; simp
  obtain ⟨w1, hw1⟩ : ∃ W0 : World, W0 = w0.alloc (.cells #[.int .u8 1] 5) := ⟨_, rfl⟩
  have HW0 := Lib.hid hw0
  have HW := Lib.hid hw1
  have O1 := Lib.hid (show OB w1 Z v1 (numL 1) by rw [hw1, hv1, ← hz0]; exact (ob_one w0 (z := Z) (n := 1) (by omega) (by omega)).resolve_right (by omega))
  have X1 := Lib.hid (show Bx w1 none v1 w.heap.size 31 #[.int .i64 1, .int .i64 (sn : Int), .int .i64 (vn : Int), .int .i64 (hn : Int), .int .i64 x1, .int .i64 y1, .int .i64 x2, .int .i64 y2, .string sf, .int .i64 e.pub, .int .u32 (e.seq : Nat), .int .i64 e.x, .int .i64 e.y, .slice a e.attrs.length c] by rw [hw1]; exact ⟨(Below.heap_alloc _ _ _ (by omega)).trans (by rw [hw0]; exact heap_alloc_new w _), by simp, by rw [hv1]; simp [Value.ownBlock]⟩)
  have B1 := Lib.hid (show Below w.heap.size w w1 by rw [hw1, hw0]; exact (below_alloc _ _).alloc (by simp) _)
  have S1 := Lib.hid (Step.refl w1 none v1)
  have HL := Lib.hid hl
  have HZ1 := Lib.hid (show Z ≤ w1.heap.size by rw [hw1, hZ]; simp; omega)
  have HZE := Lib.hid hZ
  have HV1 := Lib.hid hv1
  have HS0 := Lib.hid hz0
  have HSN := Lib.hid (show sn < 18446744073709551616 by omega)
  have HSQ := Lib.hid (wrapU (show (sn : Int) = ((sn : Nat) : Int) from rfl) (show sn < 18446744073709551616 by omega))
  have HVN := Lib.hid (show vn < 18446744073709551616 by omega)
  have HVQ := Lib.hid (wrapU (show (vn : Int) = ((vn : Nat) : Int) from rfl) (show vn < 18446744073709551616 by omega))
  have HHN := Lib.hid (show hn < 18446744073709551616 by omega)
  have HHQ := Lib.hid (wrapU (show (hn : Int) = ((hn : Nat) : Int) from rfl) (show hn < 18446744073709551616 by omega))
  have HF := Lib.hid hf
  have HC := Lib.hid hc
  clear hf hc hfl
  clear hw1 hw0 hl hZ hv1 hz0 h_sn h_vn h_hn
  obtain ⟨c0, c1, c2, c3, c4, c5, c6, c7, c8, c9, c10, c11, c12, c13⟩ := X1.out.c14
  go_enter Try.func13, Try.ntmps13
  clear c0 c1 c2 c3 c4 c5 c6 c7 c8 c9 c10 c11 c12 c13
  go_wp2_with fail
  rw [← HW0.out, ← HW.out]
  try rw [← HV1.out]
  try rw [HSQ.out]
  refine Calls.mono (numR_any Z sn HSN.out v1 _ w1 (Nat.le_trans HZ1.out S1.out.size) (by have := HL.out; simp only [List.length_append] at this ⊢; omega) O1.out) ?_
  rintro e1 w2 ⟨v2, rfl, ho2, hs2⟩
  have O2 := Lib.hid ho2
  have X2 := Lib.hid (X1.out.step hs2)
  have S2 := Lib.hid (S1.out.trans hs2)
  clear ho2 hs2
  obtain ⟨c0, c1, c2, c3, c4, c5, c6, c7, c8, c9, c10, c11, c12, c13⟩ := X2.out.c14
  go_wp2_with fail
  clear c0 c1 c2 c3 c4 c5 c6 c7 c8 c9 c10 c11 c12 c13
  try rw [HVQ.out]
  refine Calls.mono (numR_any Z vn HVN.out v2 _ w2 (Nat.le_trans HZ1.out S2.out.size) (by have := HL.out; simp only [List.length_append] at this ⊢; omega) O2.out) ?_
  rintro e1 w3 ⟨v3, rfl, ho3, hs3⟩
  have O3 := Lib.hid ho3
  have X3 := Lib.hid (X2.out.step hs3)
  have S3 := Lib.hid (S2.out.trans hs3)
  clear ho3 hs3
  obtain ⟨c0, c1, c2, c3, c4, c5, c6, c7, c8, c9, c10, c11, c12, c13⟩ := X3.out.c14
  go_wp2_with fail
  clear c0 c1 c2 c3 c4 c5 c6 c7 c8 c9 c10 c11 c12 c13
  try rw [HHQ.out]
  refine Calls.mono (numR_any Z hn HHN.out v3 _ w3 (Nat.le_trans HZ1.out S3.out.size) (by have := HL.out; simp only [List.length_append] at this ⊢; omega) O3.out) ?_
  rintro e1 w4 ⟨v4, rfl, ho4, hs4⟩
  have O4 := Lib.hid ho4
  have X4 := Lib.hid (X3.out.step hs4)
  have S4 := Lib.hid (S3.out.trans hs4)
  clear ho4 hs4
  obtain ⟨c0, c1, c2, c3, c4, c5, c6, c7, c8, c9, c10, c11, c12, c13⟩ := X4.out.c14
  go_wp2_with fail
  clear c0 c1 c2 c3 c4 c5 c6 c7 c8 c9 c10 c11 c12 c13
  refine Calls.mono (signR_any Z x1 (HC.out _ (by simp)).1 (HC.out _ (by simp)).2 v4 _ w4 (Nat.le_trans HZ1.out S4.out.size) (by have := HL.out; simp only [List.length_append] at this ⊢; omega) O4.out) ?_
  rintro e1 w5 ⟨v5, rfl, ho5, hs5⟩
  have O5 := Lib.hid ho5
  have X5 := Lib.hid (X4.out.step hs5)
  have S5 := Lib.hid (S4.out.trans hs5)
  clear ho5 hs5
  obtain ⟨c0, c1, c2, c3, c4, c5, c6, c7, c8, c9, c10, c11, c12, c13⟩ := X5.out.c14
  go_wp2_with fail
  clear c0 c1 c2 c3 c4 c5 c6 c7 c8 c9 c10 c11 c12 c13
  refine Calls.mono (signR_any Z y1 (HC.out _ (by simp)).1 (HC.out _ (by simp)).2 v5 _ w5 (Nat.le_trans HZ1.out S5.out.size) (by have := HL.out; simp only [List.length_append] at this ⊢; omega) O5.out) ?_
  rintro e1 w6 ⟨v6, rfl, ho6, hs6⟩
  have O6 := Lib.hid ho6
  have X6 := Lib.hid (X5.out.step hs6)
  have S6 := Lib.hid (S5.out.trans hs6)
  clear ho6 hs6
  obtain ⟨c0, c1, c2, c3, c4, c5, c6, c7, c8, c9, c10, c11, c12, c13⟩ := X6.out.c14
  go_wp2_with fail
  clear c0 c1 c2 c3 c4 c5 c6 c7 c8 c9 c10 c11 c12 c13
  refine Calls.mono (signR_any Z x2 (HC.out _ (by simp)).1 (HC.out _ (by simp)).2 v6 _ w6 (Nat.le_trans HZ1.out S6.out.size) (by have := HL.out; simp only [List.length_append] at this ⊢; omega) O6.out) ?_
  rintro e1 w7 ⟨v7, rfl, ho7, hs7⟩
  have O7 := Lib.hid ho7
  have X7 := Lib.hid (X6.out.step hs7)
  have S7 := Lib.hid (S6.out.trans hs7)
  clear ho7 hs7
  obtain ⟨c0, c1, c2, c3, c4, c5, c6, c7, c8, c9, c10, c11, c12, c13⟩ := X7.out.c14
  go_wp2_with fail
  clear c0 c1 c2 c3 c4 c5 c6 c7 c8 c9 c10 c11 c12 c13
  refine Calls.mono (signR_any Z y2 (HC.out _ (by simp)).1 (HC.out _ (by simp)).2 v7 _ w7 (Nat.le_trans HZ1.out S7.out.size) (by have := HL.out; simp only [List.length_append] at this ⊢; omega) O7.out) ?_
  rintro e1 w8 ⟨v8, rfl, ho8, hs8⟩
  have O8 := Lib.hid ho8
  have X8 := Lib.hid (X7.out.step hs8)
  have S8 := Lib.hid (S7.out.trans hs8)
  clear ho8 hs8
  obtain ⟨c0, c1, c2, c3, c4, c5, c6, c7, c8, c9, c10, c11, c12, c13⟩ := X8.out.c14
  go_wp2_with fail
  clear c0 c1 c2 c3 c4 c5 c6 c7 c8 c9 c10 c11 c12 c13
  refine Calls.mono (textR_any Z sf fl HF.out v8 _ w8 (Nat.le_trans HZ1.out S8.out.size) (by have := HL.out; simp only [List.length_append] at this ⊢; omega) O8.out) ?_
  rintro e1 w9 ⟨v9, rfl, ho9, hs9⟩
  have O9 := Lib.hid ho9
  have X9 := Lib.hid (X8.out.step hs9)
  have S9 := Lib.hid (S8.out.trans hs9)
  clear ho9 hs9
  obtain ⟨c0, c1, c2, c3, c4, c5, c6, c7, c8, c9, c10, c11, c12, c13⟩ := X9.out.c14
  go_wp2_with fail
  clear c0 c1 c2 c3 c4 c5 c6 c7 c8 c9 c10 c11 c12 c13
  go_ret
  refine ⟨v9, rfl, ?_, B1.out.trans (S9.out.old (z := w.heap.size) (by have := HZ1.out; rw [HZE.out] at this; exact this) (fun k hk => by cases hk) (fun k hk => by have := (O1.out.lt hk).1; rw [HZE.out] at this; exact this))⟩
  have := O9.out
  rw [HZE.out] at this
  simpa only [List.append_assoc] using this
theorem putR_2 (x1 y1 x2 y2 H : Int) (sn vn : Nat) (h_sn : sn ≤ 2147483647) (h_vn : vn ≤ 2147483647) (fl : List UInt8) (sf : ByteArray) (e : Ev) (a : Option Addr) (c : Nat) (w : World)  (hl : (putM ⟨2, (sn : Int), (vn : Int), H, x1, y1, x2, y2, fl, e⟩).length ≤ 1000000) :
    Calls Try.prog 13 #[.agg #[.int .i64 2, .int .i64 (sn : Int), .int .i64 (vn : Int), .int .i64 H, .int .i64 x1, .int .i64 y1, .int .i64 x2, .int .i64 y2, .string sf, .int .i64 e.pub, .int .u32 (e.seq : Nat), .int .i64 e.x, .int .i64 e.y, .slice a e.attrs.length c]] w fun x w' => PutREnd ⟨2, (sn : Int), (vn : Int), H, x1, y1, x2, y2, fl, e⟩ w w' x := by
  obtain ⟨Z, hZ⟩ : ∃ Z, Z = w.heap.size := ⟨_, rfl⟩
  obtain ⟨v1, hv1⟩ : ∃ v : Value, v = .slice (some ⟨w.heap.size + 1, 0, none⟩) 1 1 := ⟨_, rfl⟩
  unfold PutREnd
  rw [put_2] at hl ⊢
  simp only [Int.toNat_natCast] at hl ⊢
  obtain ⟨w0, hw0⟩ : ∃ W0 : World, W0 = w.alloc (.cells #[.int .i64 2, .int .i64 (sn : Int), .int .i64 (vn : Int), .int .i64 H, .int .i64 x1, .int .i64 y1, .int .i64 x2, .int .i64 y2, .string sf, .int .i64 e.pub, .int .u32 (e.seq : Nat), .int .i64 e.x, .int .i64 e.y, .slice a e.attrs.length c] 31) := ⟨_, rfl⟩
  have hz0 : w0.heap.size = w.heap.size + 1 := by rw [hw0]; simp
  obtain ⟨w1, hw1⟩ : ∃ W0 : World, W0 = w0.alloc (.cells #[.int .u8 2] 5) := ⟨_, rfl⟩
  have HW0 := Lib.hid hw0
  have HW := Lib.hid hw1
  have O1 := Lib.hid (show OB w1 Z v1 (numL 2) by rw [hw1, hv1, ← hz0]; exact (ob_one w0 (z := Z) (n := 2) (by omega) (by omega)).resolve_right (by omega))
  have X1 := Lib.hid (show Bx w1 none v1 w.heap.size 31 #[.int .i64 2, .int .i64 (sn : Int), .int .i64 (vn : Int), .int .i64 H, .int .i64 x1, .int .i64 y1, .int .i64 x2, .int .i64 y2, .string sf, .int .i64 e.pub, .int .u32 (e.seq : Nat), .int .i64 e.x, .int .i64 e.y, .slice a e.attrs.length c] by rw [hw1]; exact ⟨(Below.heap_alloc _ _ _ (by omega)).trans (by rw [hw0]; exact heap_alloc_new w _), by simp, by rw [hv1]; simp [Value.ownBlock]⟩)
  have B1 := Lib.hid (show Below w.heap.size w w1 by rw [hw1, hw0]; exact (below_alloc _ _).alloc (by simp) _)
  have S1 := Lib.hid (Step.refl w1 none v1)
  have HL := Lib.hid hl
  have HZ1 := Lib.hid (show Z ≤ w1.heap.size by rw [hw1, hZ]; simp; omega)
  have HZE := Lib.hid hZ
  have HV1 := Lib.hid hv1
  have HS0 := Lib.hid hz0
  have HSN := Lib.hid (show sn < 18446744073709551616 by omega)
  have HSQ := Lib.hid (wrapU (show (sn : Int) = ((sn : Nat) : Int) from rfl) (show sn < 18446744073709551616 by omega))
  have HVN := Lib.hid (show vn < 18446744073709551616 by omega)
  have HVQ := Lib.hid (wrapU (show (vn : Int) = ((vn : Nat) : Int) from rfl) (show vn < 18446744073709551616 by omega))
  clear hw1 hw0 hl hZ hv1 hz0 h_sn h_vn
  obtain ⟨c0, c1, c2, c3, c4, c5, c6, c7, c8, c9, c10, c11, c12, c13⟩ := X1.out.c14
  go_enter Try.func13, Try.ntmps13
  clear c0 c1 c2 c3 c4 c5 c6 c7 c8 c9 c10 c11 c12 c13
  go_wp2_with fail
  rw [← HW0.out, ← HW.out]
  try rw [← HV1.out]
  try rw [HSQ.out]
  refine Calls.mono (numR_any Z sn HSN.out v1 _ w1 (Nat.le_trans HZ1.out S1.out.size) (by have := HL.out; simp only [List.length_append] at this ⊢; omega) O1.out) ?_
  rintro e1 w2 ⟨v2, rfl, ho2, hs2⟩
  have O2 := Lib.hid ho2
  have X2 := Lib.hid (X1.out.step hs2)
  have S2 := Lib.hid (S1.out.trans hs2)
  clear ho2 hs2
  obtain ⟨c0, c1, c2, c3, c4, c5, c6, c7, c8, c9, c10, c11, c12, c13⟩ := X2.out.c14
  go_wp2_with fail
  clear c0 c1 c2 c3 c4 c5 c6 c7 c8 c9 c10 c11 c12 c13
  try rw [HVQ.out]
  refine Calls.mono (numR_any Z vn HVN.out v2 _ w2 (Nat.le_trans HZ1.out S2.out.size) (by have := HL.out; simp only [List.length_append] at this ⊢; omega) O2.out) ?_
  rintro e1 w3 ⟨v3, rfl, ho3, hs3⟩
  have O3 := Lib.hid ho3
  have X3 := Lib.hid (X2.out.step hs3)
  have S3 := Lib.hid (S2.out.trans hs3)
  clear ho3 hs3
  obtain ⟨c0, c1, c2, c3, c4, c5, c6, c7, c8, c9, c10, c11, c12, c13⟩ := X3.out.c14
  go_wp2_with fail
  clear c0 c1 c2 c3 c4 c5 c6 c7 c8 c9 c10 c11 c12 c13
  go_ret
  refine ⟨v3, rfl, ?_, B1.out.trans (S3.out.old (z := w.heap.size) (by have := HZ1.out; rw [HZE.out] at this; exact this) (fun k hk => by cases hk) (fun k hk => by have := (O1.out.lt hk).1; rw [HZE.out] at this; exact this))⟩
  have := O3.out
  rw [HZE.out] at this
  simpa only [List.append_assoc] using this
theorem putR_3 (x1 y1 x2 y2 S V H : Int)   (fl : List UInt8) (sf : ByteArray) (e : Ev) (a : Option Addr) (c : Nat) (w : World) (he : evB e = true) (hr : evR e) (hA : AttsAt w (Old w.heap.size) a e.attrs) (hl : (putM ⟨3, S, V, H, x1, y1, x2, y2, fl, e⟩).length ≤ 1000000) :
    Calls Try.prog 13 #[.agg #[.int .i64 3, .int .i64 S, .int .i64 V, .int .i64 H, .int .i64 x1, .int .i64 y1, .int .i64 x2, .int .i64 y2, .string sf, .int .i64 e.pub, .int .u32 (e.seq : Nat), .int .i64 e.x, .int .i64 e.y, .slice a e.attrs.length c]] w fun x w' => PutREnd ⟨3, S, V, H, x1, y1, x2, y2, fl, e⟩ w w' x := by
  obtain ⟨Z, hZ⟩ : ∃ Z, Z = w.heap.size := ⟨_, rfl⟩
  obtain ⟨v1, hv1⟩ : ∃ v : Value, v = .slice (some ⟨w.heap.size + 1, 0, none⟩) 1 1 := ⟨_, rfl⟩
  unfold PutREnd
  rw [put_3] at hl ⊢
  skip
  obtain ⟨w0, hw0⟩ : ∃ W0 : World, W0 = w.alloc (.cells #[.int .i64 3, .int .i64 S, .int .i64 V, .int .i64 H, .int .i64 x1, .int .i64 y1, .int .i64 x2, .int .i64 y2, .string sf, .int .i64 e.pub, .int .u32 (e.seq : Nat), .int .i64 e.x, .int .i64 e.y, .slice a e.attrs.length c] 31) := ⟨_, rfl⟩
  have hz0 : w0.heap.size = w.heap.size + 1 := by rw [hw0]; simp
  obtain ⟨w1, hw1⟩ : ∃ W0 : World, W0 = w0.alloc (.cells #[.int .u8 3] 5) := ⟨_, rfl⟩
  have HW0 := Lib.hid hw0
  have HW := Lib.hid hw1
  have O1 := Lib.hid (show OB w1 Z v1 (numL 3) by rw [hw1, hv1, ← hz0]; exact (ob_one w0 (z := Z) (n := 3) (by omega) (by omega)).resolve_right (by omega))
  have X1 := Lib.hid (show Bx w1 none v1 w.heap.size 31 #[.int .i64 3, .int .i64 S, .int .i64 V, .int .i64 H, .int .i64 x1, .int .i64 y1, .int .i64 x2, .int .i64 y2, .string sf, .int .i64 e.pub, .int .u32 (e.seq : Nat), .int .i64 e.x, .int .i64 e.y, .slice a e.attrs.length c] by rw [hw1]; exact ⟨(Below.heap_alloc _ _ _ (by omega)).trans (by rw [hw0]; exact heap_alloc_new w _), by simp, by rw [hv1]; simp [Value.ownBlock]⟩)
  have B1 := Lib.hid (show Below w.heap.size w w1 by rw [hw1, hw0]; exact (below_alloc _ _).alloc (by simp) _)
  have S1 := Lib.hid (Step.refl w1 none v1)
  have HL := Lib.hid hl
  have HZ1 := Lib.hid (show Z ≤ w1.heap.size by rw [hw1, hZ]; simp; omega)
  have HZE := Lib.hid hZ
  have HV1 := Lib.hid hv1
  have HS0 := Lib.hid hz0
  have HE := Lib.hid he
  have HR := Lib.hid hr
  have HA := Lib.hid (show AttsAt w1 (Old Z) a e.attrs by rw [hZ]; exact hA.later B1.out)
  clear he hr hA
  clear hw1 hw0 hl hZ hv1 hz0 
  obtain ⟨c0, c1, c2, c3, c4, c5, c6, c7, c8, c9, c10, c11, c12, c13⟩ := X1.out.c14
  go_enter Try.func13, Try.ntmps13
  clear c0 c1 c2 c3 c4 c5 c6 c7 c8 c9 c10 c11 c12 c13
  go_wp2_with fail
  rw [← HW0.out, ← HW.out]
  try rw [← HV1.out]
  refine Calls.mono (bytesR_any Z e HE.out HR.out a c v1 _ w1 (Nat.le_trans HZ1.out S1.out.size) (HA.out.later (S1.out.old (z := Z) HZ1.out (fun k hk => by cases hk) (fun k hk => (O1.out.lt hk).1))) O1.out (by have := HL.out; simp only [List.length_append] at this ⊢; omega)) ?_
  rintro e1 w2 ⟨v2, rfl, ho2, hs2⟩
  have O2 := Lib.hid ho2
  have X2 := Lib.hid (X1.out.step hs2)
  have S2 := Lib.hid (S1.out.trans hs2)
  clear ho2 hs2
  obtain ⟨c0, c1, c2, c3, c4, c5, c6, c7, c8, c9, c10, c11, c12, c13⟩ := X2.out.c14
  go_wp2_with fail
  clear c0 c1 c2 c3 c4 c5 c6 c7 c8 c9 c10 c11 c12 c13
  go_ret
  refine ⟨v2, rfl, ?_, B1.out.trans (S2.out.old (z := w.heap.size) (by have := HZ1.out; rw [HZE.out] at this; exact this) (fun k hk => by cases hk) (fun k hk => by have := (O1.out.lt hk).1; rw [HZE.out] at this; exact this))⟩
  have := O2.out
  rw [HZE.out] at this
  simpa only [List.append_assoc] using this
theorem putR_4 (x1 y1 x2 y2 V H : Int) (sn : Nat) (h_sn : sn ≤ 2147483647) (fl : List UInt8) (sf : ByteArray) (e : Ev) (a : Option Addr) (c : Nat) (w : World) (he : evB e = true) (hr : evR e) (hA : AttsAt w (Old w.heap.size) a e.attrs) (hl : (putM ⟨4, (sn : Int), V, H, x1, y1, x2, y2, fl, e⟩).length ≤ 1000000) :
    Calls Try.prog 13 #[.agg #[.int .i64 4, .int .i64 (sn : Int), .int .i64 V, .int .i64 H, .int .i64 x1, .int .i64 y1, .int .i64 x2, .int .i64 y2, .string sf, .int .i64 e.pub, .int .u32 (e.seq : Nat), .int .i64 e.x, .int .i64 e.y, .slice a e.attrs.length c]] w fun x w' => PutREnd ⟨4, (sn : Int), V, H, x1, y1, x2, y2, fl, e⟩ w w' x := by
  obtain ⟨Z, hZ⟩ : ∃ Z, Z = w.heap.size := ⟨_, rfl⟩
  obtain ⟨v1, hv1⟩ : ∃ v : Value, v = .slice (some ⟨w.heap.size + 1, 0, none⟩) 1 1 := ⟨_, rfl⟩
  unfold PutREnd
  rw [put_4] at hl ⊢
  simp only [Int.toNat_natCast] at hl ⊢
  obtain ⟨w0, hw0⟩ : ∃ W0 : World, W0 = w.alloc (.cells #[.int .i64 4, .int .i64 (sn : Int), .int .i64 V, .int .i64 H, .int .i64 x1, .int .i64 y1, .int .i64 x2, .int .i64 y2, .string sf, .int .i64 e.pub, .int .u32 (e.seq : Nat), .int .i64 e.x, .int .i64 e.y, .slice a e.attrs.length c] 31) := ⟨_, rfl⟩
  have hz0 : w0.heap.size = w.heap.size + 1 := by rw [hw0]; simp
  obtain ⟨w1, hw1⟩ : ∃ W0 : World, W0 = w0.alloc (.cells #[.int .u8 4] 5) := ⟨_, rfl⟩
  have HW0 := Lib.hid hw0
  have HW := Lib.hid hw1
  have O1 := Lib.hid (show OB w1 Z v1 (numL 4) by rw [hw1, hv1, ← hz0]; exact (ob_one w0 (z := Z) (n := 4) (by omega) (by omega)).resolve_right (by omega))
  have X1 := Lib.hid (show Bx w1 none v1 w.heap.size 31 #[.int .i64 4, .int .i64 (sn : Int), .int .i64 V, .int .i64 H, .int .i64 x1, .int .i64 y1, .int .i64 x2, .int .i64 y2, .string sf, .int .i64 e.pub, .int .u32 (e.seq : Nat), .int .i64 e.x, .int .i64 e.y, .slice a e.attrs.length c] by rw [hw1]; exact ⟨(Below.heap_alloc _ _ _ (by omega)).trans (by rw [hw0]; exact heap_alloc_new w _), by simp, by rw [hv1]; simp [Value.ownBlock]⟩)
  have B1 := Lib.hid (show Below w.heap.size w w1 by rw [hw1, hw0]; exact (below_alloc _ _).alloc (by simp) _)
  have S1 := Lib.hid (Step.refl w1 none v1)
  have HL := Lib.hid hl
  have HZ1 := Lib.hid (show Z ≤ w1.heap.size by rw [hw1, hZ]; simp; omega)
  have HZE := Lib.hid hZ
  have HV1 := Lib.hid hv1
  have HS0 := Lib.hid hz0
  have HSN := Lib.hid (show sn < 18446744073709551616 by omega)
  have HSQ := Lib.hid (wrapU (show (sn : Int) = ((sn : Nat) : Int) from rfl) (show sn < 18446744073709551616 by omega))
  have HE := Lib.hid he
  have HR := Lib.hid hr
  have HA := Lib.hid (show AttsAt w1 (Old Z) a e.attrs by rw [hZ]; exact hA.later B1.out)
  clear he hr hA
  clear hw1 hw0 hl hZ hv1 hz0 h_sn
  obtain ⟨c0, c1, c2, c3, c4, c5, c6, c7, c8, c9, c10, c11, c12, c13⟩ := X1.out.c14
  go_enter Try.func13, Try.ntmps13
  clear c0 c1 c2 c3 c4 c5 c6 c7 c8 c9 c10 c11 c12 c13
  go_wp2_with fail
  rw [← HW0.out, ← HW.out]
  obtain ⟨c0, c1, c2, c3, c4, c5, c6, c7, c8, c9, c10, c11, c12, c13⟩ := X1.out.c14
  have SX : ∀ W v, Bx W none v w.heap.size 31 #[.int .i64 4, .int .i64 (sn : Int), .int .i64 V, .int .i64 H, .int .i64 x1, .int .i64 y1, .int .i64 x2, .int .i64 y2, .string sf, .int .i64 e.pub, .int .u32 (e.seq : Nat), .int .i64 e.x, .int .i64 e.y, .slice a e.attrs.length c] → (fun W => W.cell? ⟨w.heap.size, 1, none⟩ = some (.int .i64 (sn : Int)) ∧ W.cell? ⟨w.heap.size, 9, none⟩ = some (.int .i64 e.pub) ∧ W.cell? ⟨w.heap.size, 10, none⟩ = some (.int .u32 (e.seq : Nat)) ∧ W.cell? ⟨w.heap.size, 11, none⟩ = some (.int .i64 e.x) ∧ W.cell? ⟨w.heap.size, 12, none⟩ = some (.int .i64 e.y) ∧ W.cell? ⟨w.heap.size, 13, none⟩ = some (.slice a e.attrs.length c)) W := fun W v h => by obtain ⟨c0, c1, c2, c3, c4, c5, c6, c7, c8, c9, c10, c11, c12, c13⟩ := h.c14; exact ⟨c1, c9, c10, c11, c12, c13⟩
  have HSX := Lib.hid SX
  have X1D := Lib.hid (X1.out.later (Below.refl _ _).drew)
  have O1D := Lib.hid (O1.out.later (Below.refl _ _).drew)
  have S1D := Lib.hid (step_drew S1.out)
  clear SX
  refine wp_region_held_drew (S := (fun W => W.cell? ⟨w.heap.size, 1, none⟩ = some (.int .i64 (sn : Int)) ∧ W.cell? ⟨w.heap.size, 9, none⟩ = some (.int .i64 e.pub) ∧ W.cell? ⟨w.heap.size, 10, none⟩ = some (.int .u32 (e.seq : Nat)) ∧ W.cell? ⟨w.heap.size, 11, none⟩ = some (.int .i64 e.x) ∧ W.cell? ⟨w.heap.size, 12, none⟩ = some (.int .i64 e.y) ∧ W.cell? ⟨w.heap.size, 13, none⟩ = some (.slice a e.attrs.length c))) (by kernel_rfl) (HSX.out _ _ X1D.out) (fun hHeld => ?_)
  clear c0 c1 c2 c3 c4 c5 c6 c7 c8 c9 c10 c11 c12 c13
  refine wpAnyH_take (i := 0) (v := ?vC0) rfl (by kernel_rfl) (by kernel_rfl) (by kernel_rfl) (fun _ _ _ h => h) (Or.inl ⟨by rfl, ?yC0⟩) hHeld ?rC0
  case yC0 => (intro W hSw; simp only [List.getElem_toArray, List.getElem_cons_zero]; go_simp; try (with_reducible rfl))
  simp only [List.getElem_toArray, List.getElem_cons_zero, Act.put, List.setIfInBounds_toArray, List.set_cons_zero, List.set_cons_succ]
  refine wpAnyH_take (i := 1) (v := ?vC1) rfl (by kernel_rfl) (by kernel_rfl) (by kernel_rfl) (fun _ _ _ h => h) (Or.inl ⟨by rfl, ?yC1⟩) hHeld ?rC1
  case yC1 => (intro W hSw; simp only [List.getElem_toArray, List.getElem_cons_succ, List.getElem_cons_zero]; go_simp; try (with_reducible rfl))
  simp only [List.getElem_toArray, List.getElem_cons_succ, List.getElem_cons_zero, Act.put, List.setIfInBounds_toArray, List.set_cons_zero, List.set_cons_succ]
  refine wpAnyH_take (i := 2) (v := ?vC2) rfl (by kernel_rfl) (by kernel_rfl) (by kernel_rfl) (fun _ _ _ h => h) (Or.inl ⟨by rfl, ?yC2⟩) hHeld ?rC2
  case yC2 => (intro W hSw; simp only [List.getElem_toArray, List.getElem_cons_succ, List.getElem_cons_zero]; go_simp; try (with_reducible rfl))
  simp only [List.getElem_toArray, List.getElem_cons_succ, List.getElem_cons_zero, Act.put, List.setIfInBounds_toArray, List.set_cons_zero, List.set_cons_succ]
  refine wpAnyH_take (i := 3) (v := ?vC3) rfl (by kernel_rfl) (by kernel_rfl) (by kernel_rfl) (fun _ _ _ h => h) (Or.inl ⟨by rfl, ?yC3⟩) hHeld ?rC3
  case yC3 => (intro W hSw; simp only [List.getElem_toArray, List.getElem_cons_succ, List.getElem_cons_zero]; go_simp; try (with_reducible rfl))
  simp only [List.getElem_toArray, List.getElem_cons_succ, List.getElem_cons_zero, Act.put, List.setIfInBounds_toArray, List.set_cons_zero, List.set_cons_succ]
  refine wpAnyH_take (i := 5) (v := ?vC5) rfl (by kernel_rfl) (by kernel_rfl) (by kernel_rfl) (fun _ _ _ h => h) (Or.inl ⟨by rfl, ?yC5⟩) hHeld ?rC5
  case yC5 => (intro W hSw; simp only [List.getElem_toArray, List.getElem_cons_succ, List.getElem_cons_zero]; go_simp; try (with_reducible rfl))
  simp only [List.getElem_toArray, List.getElem_cons_succ, List.getElem_cons_zero, Act.put, List.setIfInBounds_toArray, List.set_cons_zero, List.set_cons_succ]
  refine wpAnyH_take (i := 6) (v := ?vC6) rfl (by kernel_rfl) (by kernel_rfl) (by kernel_rfl) (fun _ _ _ h => h) (Or.inl ⟨by rfl, ?yC6⟩) hHeld ?rC6
  case yC6 => (intro W hSw; simp only [List.getElem_toArray, List.getElem_cons_succ, List.getElem_cons_zero]; go_simp; try (with_reducible rfl))
  simp only [List.getElem_toArray, List.getElem_cons_succ, List.getElem_cons_zero, Act.put, List.setIfInBounds_toArray, List.set_cons_zero, List.set_cons_succ]
  refine wpAnyH_ready (rs := [4]) (by kernel_rfl) (by simp) (AllReadyH.cons rfl (fun K hK => ?_) AllReadyH.nil)
  simp only [List.getElem_toArray, List.getElem_cons_succ, List.getElem_cons_zero]
  go_simp
  go_at_call 27
  try rw [HSQ.out]
  try rw [← HV1.out]
  refine Calls.mono (numR_any Z sn HSN.out v1 _ w1.drew HZ1.out (by have := HL.out; simp only [List.length_append] at this ⊢; omega) O1D.out) ?_
  rintro e1 w2 ⟨v2, rfl, ho2, hs2⟩
  have O2 := Lib.hid ho2
  have X2 := Lib.hid (X1D.out.step hs2)
  have S2 := Lib.hid (S1D.out.trans hs2)
  clear ho2 hs2
  try go_wp2_with fail
  refine hK.out _ _ (HSX.out _ _ X2.out) (fun hHeld1 => ?_)
  clear hK K hHeld
  have hHeld := hHeld1; clear hHeld1
  try simp only [List.getElem_toArray, List.getElem_cons_succ, List.getElem_cons_zero, Act.put, List.setIfInBounds_toArray, List.set_cons_zero, List.set_cons_succ]
  refine wpAnyH_ready (rs := [7]) (by kernel_rfl) (by simp) (AllReadyH.cons rfl (fun K hK => ?_) AllReadyH.nil)
  simp only [List.getElem_toArray, List.getElem_cons_succ, List.getElem_cons_zero]
  go_simp
  go_at_call 30
  refine Calls.mono (bytesR_any Z e HE.out HR.out a c v2 _ w2 (Nat.le_trans HZ1.out S2.out.size) (HA.out.later (S2.out.old (z := Z) HZ1.out (fun k hk => by cases hk) (fun k hk => (O1.out.lt hk).1))) O2.out (by have := HL.out; simp only [List.length_append] at this ⊢; omega)) ?_
  rintro e1 w3 ⟨v3, rfl, ho3, hs3⟩
  have O3 := Lib.hid ho3
  have X3 := Lib.hid (X2.out.step hs3)
  have S3 := Lib.hid (S2.out.trans hs3)
  clear ho3 hs3
  try go_wp2_with fail
  refine hK.out _ _ (HSX.out _ _ X3.out) (fun hHeld1 => ?_)
  clear hK K hHeld
  have hHeld := hHeld1; clear hHeld1
  try simp only [List.getElem_toArray, List.getElem_cons_succ, List.getElem_cons_zero, Act.put, List.setIfInBounds_toArray, List.set_cons_zero, List.set_cons_succ]
  refine wpAnyH_take (i := 8) (v := ?vC8) rfl (by kernel_rfl) (by kernel_rfl) (by kernel_rfl) (fun _ _ _ h => h) (Or.inl ⟨by rfl, ?yC8⟩) hHeld ?rC8
  case yC8 => (intro W hSw; simp only [List.getElem_toArray, List.getElem_cons_succ, List.getElem_cons_zero]; go_simp; try (with_reducible rfl))
  simp only [List.getElem_toArray, List.getElem_cons_succ, List.getElem_cons_zero, Act.put, List.setIfInBounds_toArray, List.set_cons_zero, List.set_cons_succ]
  refine wpAnyH_done (by kernel_rfl) ?_ _
  clear hHeld
  go_wp2_with fail
  go_ret
  refine ⟨v3, rfl, ?_, B1.out.trans (S3.out.old (z := w.heap.size) (by have := HZ1.out; rw [HZE.out] at this; exact this) (fun k hk => by cases hk) (fun k hk => by have := (O1.out.lt hk).1; rw [HZE.out] at this; exact this))⟩
  have := O3.out
  rw [HZE.out] at this
  simpa only [List.append_assoc] using this
end Go.Proofs.Ytndgbdbjmogioaa.Wi
