/-
  Contract of event of package wire's writer. All else is left as it was.
-/
import Derived.Test.YtndgbdbjmogioaaWiPutA
import Derived.Outline
namespace Go.Proofs.Ytndgbdbjmogioaa.Wi
open Go.RowKit Go.Proofs.Ytndgbdbjmogioaa.Fl
set_option linter.unusedVariables false
set_option linter.unusedSimpArgs false

theorem bs_of (l : List UInt8) : ∃ s : ByteArray, bs l = .string s ∧ s.data.toList = l := ⟨⟨l.toArray⟩, rfl, rfl⟩
def EvR (p : Nat) (v : Value) (w : World) (L : List UInt8) (at' : List Att) (vi : Value) (wr : World) : Prop :=
  ∃ (k : Nat) (u : Value), k ≤ at'.length ∧ vi = .int .i64 (k : Nat) ∧ WrAt wr p u (L ++ putAll attF.put (at'.take k)) ∧ Step w wr (some p) v u
set_option maxHeartbeats 2000000
set_option maxRecDepth 100000
theorem event_any (p z : Nat) (e : Ev) (he : evB e = true) (hr : evR e) (a : Option Addr) (c : Nat) (v : Value) (l : List UInt8) (w : World) (hz : z ≤ p) (hA : AttsAt w (Old z) a e.attrs) (hW : WrAt w p v l) (hl : (l ++ evF.put e).length ≤ 1000000) :
    Calls Try.prog 42 #[.pointer (some ⟨p, 0, none⟩), .agg #[.int .i64 e.pub, .int .u32 (e.seq : Nat), .int .i64 e.x, .int .i64 e.y, .slice a e.attrs.length c]] w fun x w' => WrEnd p (l ++ evF.put e) v w w' x := by
  rw [ev_put] at hl ⊢
  obtain ⟨pub, seq, x, y, at'⟩ := e
  simp only [evB, Bool.and_eq_true, decide_eq_true_eq] at he
  obtain ⟨⟨⟨⟨h1, h2⟩, h3⟩, h4⟩, h5⟩ := he
  obtain ⟨pn, rfl, hpn⟩ := few_nat h1
  simp only [coordB, Bool.and_eq_true, decide_eq_true_eq] at h2 h3
  simp only [Int.toNat_natCast] at hl ⊢
  have HQ := Lib.hid (wrapU (show (seq : Int) = ((seq : Nat) : Int) from rfl) (show seq < 18446744073709551616 by have := hr.1; simp only at this; omega))
  have HX := Lib.hid (show -9223372036854775808 ≤ x ∧ x ≤ 9223372036854775807 by omega)
  have HY := Lib.hid (show -9223372036854775808 ≤ y ∧ y ≤ 9223372036854775807 by omega)
  have HSQ := Lib.hid (show seq < 18446744073709551616 by have := hr.1; simp only at this; omega)
  have HP := Lib.hid (show pn < 18446744073709551616 by omega)
  have HAT := Lib.hid h5
  have HRN := Lib.hid (show ∀ b ∈ at', -9223372036854775808 ≤ b.num ∧ b.num ≤ 9223372036854775807 from hr.2)
  obtain ⟨n, hn⟩ : ∃ n, n = at'.length := ⟨_, rfl⟩
  have hn16 : n ≤ 16 := by rw [hn]; exact h4
  have HNL := Lib.hid hn
  simp only at hA
  rw [← hn] at hl ⊢
  have HL := Lib.hid hl
  have HA := Lib.hid hA
  have HZ := Lib.hid (show z ≤ p ∧ p < w.heap.size ∧ ∀ k, v.ownBlock = some k → p + 1 ≤ k from ⟨hz, hW.lt, fun k hk => (hW.2.lt hk).1⟩)
  obtain ⟨w1, hw1⟩ : ∃ W0 : World, W0 = w.alloc (.cells #[.int .i64 (pn : Int), .int .u32 (seq : Nat), .int .i64 x, .int .i64 y, .slice a n c] 29) := ⟨_, rfl⟩
  have HW := Lib.hid hw1
  have X1 := Lib.hid (show Bx w1 (some p) v w.heap.size 29 #[.int .i64 (pn : Int), .int .u32 (seq : Nat), .int .i64 x, .int .i64 y, .slice a n c] by rw [hw1]; exact Bx.new hW _ _)
  have W1 := Lib.hid (show WrAt w1 p v l by rw [hw1]; exact hW.later (below_alloc _ _))
  have S1 := Lib.hid (show Step w w1 (some p) v v by rw [hw1]; exact (Step.refl _ _ _).alloc _)
  clear hW hw1 hl hA hn h1 h2 h3 h4 h5 hr hz hpn
  obtain ⟨c0, c1, c2, c3, c4⟩ := X1.out.c5
  go_enter Try.func42, Try.ntmps42
  go_wp2_with fail
  rw [← HW.out]
  refine Calls.mono (whole_any p pn HP.out v _ w1 W1.out (by have := HL.out; simp only [List.length_append] at this ⊢; omega)) ?_
  rintro e w2 ⟨rfl, v2, hw2, hs2⟩
  have W2 := Lib.hid hw2
  have X2 := Lib.hid (X1.out.step hs2)
  have S2 := Lib.hid (S1.out.trans hs2)
  clear hw2 hs2 c0 c1 c2 c3 c4
  obtain ⟨c0, c1, c2, c3, c4⟩ := X2.out.c5
  go_wp2_with fail
  try rw [HQ.out]
  refine Calls.mono (number_any p seq HSQ.out v2 _ w2 W2.out (by have := HL.out; simp only [List.length_append] at this ⊢; omega)) ?_
  rintro e w3 ⟨rfl, v3, hw3, hs3⟩
  have W3 := Lib.hid hw3
  have X3 := Lib.hid (X2.out.step hs3)
  have S3 := Lib.hid (S2.out.trans hs3)
  clear hw3 hs3 c0 c1 c2 c3 c4
  obtain ⟨c0, c1, c2, c3, c4⟩ := X3.out.c5
  go_wp2_with fail
  refine Calls.mono (sign_any p x HX.out.1 HX.out.2 v3 _ w3 W3.out (by have := HL.out; simp only [List.length_append] at this ⊢; omega)) ?_
  rintro e w4 ⟨rfl, v4, hw4, hs4⟩
  have W4 := Lib.hid hw4
  have X4 := Lib.hid (X3.out.step hs4)
  have S4 := Lib.hid (S3.out.trans hs4)
  clear hw4 hs4 c0 c1 c2 c3 c4
  obtain ⟨c0, c1, c2, c3, c4⟩ := X4.out.c5
  go_wp2_with fail
  refine Calls.mono (sign_any p y HY.out.1 HY.out.2 v4 _ w4 W4.out (by have := HL.out; simp only [List.length_append] at this ⊢; omega)) ?_
  rintro e w5 ⟨rfl, v5, hw5, hs5⟩
  have W5 := Lib.hid hw5
  have X5 := Lib.hid (X4.out.step hs5)
  have S5 := Lib.hid (S4.out.trans hs5)
  clear hw5 hs5 c0 c1 c2 c3 c4
  obtain ⟨c0, c1, c2, c3, c4⟩ := X5.out.c5
  go_wp2_with fail
  refine Calls.mono (whole_any p n (by omega) v5 _ w5 W5.out (by have := HL.out; simp only [List.length_append] at this ⊢; omega)) ?_
  rintro e w6 ⟨rfl, v6, hw6, hs6⟩
  have W6 := Lib.hid hw6
  have X6 := Lib.hid (X5.out.step hs6)
  have S6 := Lib.hid (S5.out.trans hs6)
  clear hw6 hs6 c0 c1 c2 c3 c4
  obtain ⟨c0, c1, c2, c3, c4⟩ := X6.out.c5
  go_wp2_with fail

  go_loopw [33] (fun vi wr => EvR p v w (l ++ numL pn ++ numL seq ++ numL (zig x) ++ numL (zig y) ++ numL n) at' vi wr) (fun vi _ => n - (intOf vi).toNat)
  case atStart => exact ⟨0, v6, Nat.zero_le _, rfl, by simpa [putAll] using W6.out, S6.out⟩
  case round =>
    obtain ⟨k, u, hk, rfl, hW, hS⟩ := hrel
    have WR := Lib.hid hW
    have SR := Lib.hid hS
    rw [← HNL.out] at hk
    clear hW hS c0 c1 c2 c3 c4
    by_cases hlt : k < n
    · have hlz : (k : Int) < (n : Int) := by omega
      have HK := Lib.hid (show k < at'.length by rw [← HNL.out]; exact hlt)
      have AR := Lib.hid (HA.out.later (SR.out.old (z := z) (by have := HZ.out; omega) (fun k hk => by cases hk; exact HZ.out.1) (fun k hk => by have := HZ.out.2.2 k hk; have := HZ.out.1; omega)))
      obtain ⟨g, o, hg, hgz, hc⟩ := AR.out.2.2 (Nat.lt_of_le_of_lt (Nat.zero_le _) HK.out)
      have hcc := hc k HK.out
      have HAK := Lib.hid (all_take HAT.out HK.out)
      have HNK := Lib.hid (HRN.out _ (List.getElem_mem HK.out))
      have HPT := Lib.hid (putAll_take attF.put at' HK.out)
      have HLE := Lib.hid (putAll_le attF.put at' (k + 1))
      obtain ⟨b, hb⟩ : ∃ b, b = at'[k]'HK.out := ⟨_, rfl⟩
      rw [← hb] at hcc HAK HNK HPT
      clear hb
      obtain ⟨nm, tx, nu, st⟩ := b
      simp only at hcc HNK
      obtain ⟨c0, c1, c2, c3⟩ := hcc
      obtain ⟨sn, e0, hsn⟩ := bs_of nm
      obtain ⟨ss, e3, hss⟩ := bs_of st
      rw [e0] at c0
      rw [e3] at c3
      have HSN := Lib.hid hsn
      have HSS := Lib.hid hss
      subst hg
      obtain ⟨w7, hw7⟩ : ∃ W0 : World, W0 = wr.alloc (.cells #[.string sn, .bool tx, .int .i64 nu, .string ss] 50) := ⟨_, rfl⟩
      have HW7 := Lib.hid hw7
      have W7 := Lib.hid (show WrAt w7 p u _ by rw [hw7]; exact WR.out.later (below_alloc _ _))
      have S7 := Lib.hid (show Step w w7 (some p) v u by rw [hw7]; exact SR.out.alloc _)
      have D0 := Lib.hid (show w7.cell? ⟨wr.heap.size, 0, none⟩ = some (.string sn) ∧ w7.cell? ⟨wr.heap.size, 1, none⟩ = some (.bool tx) ∧ w7.cell? ⟨wr.heap.size, 2, none⟩ = some (.int .i64 nu) ∧ w7.cell? ⟨wr.heap.size, 3, none⟩ = some (.string ss) by rw [hw7]; refine ⟨?_, ?_, ?_, ?_⟩ <;> simp [go_sem])
      clear hc e0 e3 hsn hss hgz hw7
      go_wp2_with fail
      rw [← HW7.out]
      refine Calls.mono (attr_any p nm st tx nu HNK.out sn ss HSN.out HSS.out u _ w7 W7.out (by have h1 := HL.out; have h2 := HLE.out; rw [HPT.out] at h2; simp only [List.length_append] at h1 h2 ⊢; omega)) ?_
      rintro e w8 ⟨rfl, v8, hw8, hs8⟩
      clear c0 c1 c2 c3
      go_wp2_with fail
      go_roundw
      case rel => exact ⟨k + 1, v8, by rw [← HNL.out]; omega, by go_num, by have := hw8; rw [List.append_assoc, ← HPT.out] at this; exact this, S7.out.trans hs8⟩
      case measure => simp [intOf]; omega
    · have hlz : ¬ (k : Int) < (n : Int) := by omega
      have hkn : k = n := by omega
      have W7 := Lib.hid (show WrAt wr p u (l ++ numL pn ++ numL seq ++ numL (zig x) ++ numL (zig y) ++ numL n ++ putAll attF.put at') by have := WR.out; rw [List.take_of_length_le (by rw [← HNL.out]; omega)] at this; exact this)
      clear hkn
      go_wp2_with fail
      refine bodyPost_end (results_none rfl _ _ _) rfl ?_
      refine ⟨rfl, u, ?_, SR.out⟩
      have := W7.out
      simpa only [List.append_assoc] using this
end Go.Proofs.Ytndgbdbjmogioaa.Wi
