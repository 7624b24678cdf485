/-
  Contracts of attr and rect of package wire's reader. All else is left as it was.
-/
import Derived.Test.YtndgbdbjmogioaaWiBq
namespace Go.Proofs.Ytndgbdbjmogioaa.Wi
open Go.RowKit Go.Proofs.Ytndgbdbjmogioaa.Fl
set_option linter.unusedVariables false
set_option linter.unusedSimpArgs false

set_option maxHeartbeats 4000000
set_option maxRecDepth 100000
theorem ret4 {s : Nat} {ty : TypeId} {fn : Func} {R : Ending → World → Prop} {a : Act} {V : World} {q : Nat} {u : TypeId} {x0 x1 x2 x3 : Value} (hr : fn.results = #[.cell s 50]) (h2 : a.tmps.getD s undef = .pointer (some ⟨q, 0, none⟩)) (hb : Bq V q u #[x0, x1, x2, x3]) (hd : a.defers = [])
    (hR : R (.returned (.agg #[x0, x1, x2, x3])) V) : bodyPost Try.prog fn R .ret a V := by
  obtain ⟨b0, b1, b2, b3⟩ := hb.c4
  refine bodyPost_ret (v := .agg #[x0, x1, x2, x3]) ?_ hd hR
  rw [Array.getD_eq_getD_getElem?] at h2
  simp [results, hr, go_sem, h2, b0, b1, b2, b3]
theorem ret4r {s : Nat} {ty : TypeId} {fn : Func} {R : Ending → World → Prop} {a : Act} {V : World} {q : Nat} {u : TypeId} {x0 x1 x2 x3 : Value} (hr : fn.results = #[.cell s 23]) (h2 : a.tmps.getD s undef = .pointer (some ⟨q, 0, none⟩)) (hb : Bq V q u #[x0, x1, x2, x3]) (hd : a.defers = [])
    (hR : R (.returned (.agg #[x0, x1, x2, x3])) V) : bodyPost Try.prog fn R .ret a V := by
  obtain ⟨b0, b1, b2, b3⟩ := hb.c4
  refine bodyPost_ret (v := .agg #[x0, x1, x2, x3]) ?_ hd hR
  rw [Array.getD_eq_getD_getElem?] at h2
  simp [results, hr, go_sem, h2, b0, b1, b2, b3]
theorem attr_rd (p z : Nat) (s : St) (w : World) (hR : RdW w p z s) :
    Calls Try.prog 62 #[.pointer (some ⟨p, 0, none⟩)] w fun e w' => RdE p z (.agg #[bs (attS s).1.name, .bool (attS s).1.text, .int .i64 (attS s).1.num, bs (attS s).1.str]) (attS s).2 w w' e := by
  have HLT := Lib.hid hR.lt
  have HZP := Lib.hid hR.zp
  obtain ⟨w1, hw1⟩ : ∃ W0 : World, W0 = w.alloc (.cells #[.string ⟨#[]⟩, .bool false, .int .i64 0, .string ⟨#[]⟩] 50) := ⟨_, rfl⟩
  have HW1 := Lib.hid hw1
  have G1 := Lib.hid (show w.grownBy w1 (some p) by rw [hw1]; exact World.grownBy_alloc _ _ _)
  have Q1 := Lib.hid (show Bq w1 w.heap.size 50 #[.string ⟨#[]⟩, .bool false, .int .i64 0, .string ⟨#[]⟩] by rw [hw1]; exact Bq.new _ _ _)
  have R1 := Lib.hid (show RdW w1 p z s by rw [hw1]; exact hR.alloc _)
  clear hw1 hR
  obtain ⟨nm, s2, h2⟩ : ∃ v t, textS 200 s = (v, t) := ⟨_, _, rfl⟩
  obtain ⟨k, s3, h3⟩ : ∃ v t, numS 1 s2 = (v, t) := ⟨_, _, rfl⟩
  have hk1 := numS_le 1 s2
  rw [h3] at hk1
  simp only at hk1
  have C1 := text_rd p z 200 (by omega) s w1 R1.out
  rw [h2] at C1
  have HC1 := Lib.hid C1
  obtain ⟨sn, e0, hsn⟩ := bs_of2 nm
  simp only [e0] at HC1
  have H2 := Lib.hid h2
  have H3 := Lib.hid h3
  have HSN := Lib.hid e0
  clear h2 h3 e0 hsn C1
  go_enter Try.func62, Try.ntmps62
  go_wp2_with fail
  rw [← HW1.out]
  refine Calls.mono HC1.out ?_
  rintro x w2 ⟨rfl, hr2, hg2⟩
  have hne : ¬ w.heap.size = p := by have := HLT.out; omega
  have G2 := Lib.hid (G1.out.trans hg2)
  have Q2 := Lib.hid (Q1.out.gr hg2 hne)
  have HS2 := Lib.hid Q2.out.lt
  obtain ⟨w3, hw3⟩ : ∃ W0 : World, W0 = w2.alloc (.cells #[.string sn, .bool false, .int .i64 0, .string ⟨#[]⟩] 50) := ⟨_, rfl⟩
  have HW3 := Lib.hid hw3
  have G3 := Lib.hid (show w.grownBy w3 (some p) by rw [hw3]; exact gr_al G2.out _)
  have Q3 := Lib.hid (show Bq w3 w.heap.size 50 #[.string ⟨#[]⟩, .bool false, .int .i64 0, .string ⟨#[]⟩] by rw [hw3]; exact Q2.out.alloc _)
  have P3 := Lib.hid (show Bq w3 w2.heap.size 50 #[.string sn, .bool false, .int .i64 0, .string ⟨#[]⟩] by rw [hw3]; exact Bq.new _ _ _)
  have R3 := Lib.hid (show RdW w3 p z s2 by rw [hw3]; exact hr2.alloc _)
  have C2 := whole_rd p z 1 (by omega) s2 w3 R3.out
  rw [H3.out] at C2
  have HC2 := Lib.hid C2
  have hne2 : ¬ w2.heap.size = p := by have := HLT.out; have := HS2.out; omega
  have hneq : ¬ w2.heap.size = w.heap.size := by have := HS2.out; omega
  clear hw3 hr2 hg2 C2
  go_wp2_with fail
  rw [← HW3.out]
  refine Calls.mono HC2.out ?_
  rintro x w4 ⟨rfl, hr4, hg4⟩
  have G4 := Lib.hid (G3.out.trans hg4)
  have Q4 := Lib.hid (Q3.out.gr hg4 hne)
  have P4 := Lib.hid (P3.out.gr hg4 hne2)
  have R4 := Lib.hid hr4
  clear hr4 hg4
  obtain ⟨c0, c1, c2, c3⟩ := P4.out.c4
  have hf4 := P4.out.fr
  have hk01 : k = 0 ∨ k = 1 := by omega
  clear hk1
  rcases hk01 with rfl | rfl
  · obtain ⟨w5, hw5⟩ : ∃ W0 : World, W0 = w4.setCell ⟨w2.heap.size, 1, none⟩ (.bool false) := ⟨_, rfl⟩
    have HW5 := Lib.hid hw5
    have G5 := Lib.hid (show w.grownBy w5 (some p) by rw [hw5]; exact gr_new G4.out (by have := HS2.out; omega) _ _)
    have Q5 := Lib.hid (show Bq w5 w.heap.size 50 #[.string ⟨#[]⟩, .bool false, .int .i64 0, .string ⟨#[]⟩] by rw [hw5]; exact Q4.out.setO (fun e => hneq e.symm) _ _)
    have P5 := Lib.hid (show Bq w5 w2.heap.size 50 #[.string sn, .bool false, .int .i64 0, .string ⟨#[]⟩] by rw [hw5]; exact P4.out.set 1 _)
    have R5 := Lib.hid (show RdW w5 p z s3 by rw [hw5]; exact R4.out.set hne2 (by have := HZP.out; have := HS2.out; have := HLT.out; omega) _ _)
    obtain ⟨nu, s6, h6⟩ : ∃ v t, signS s3 = (v, t) := ⟨_, _, rfl⟩
    have C3 := sign_rd p z s3 w5 R5.out
    rw [h6] at C3
    have HC3 := Lib.hid C3
    have HRES := Lib.hid (show attS s = (⟨nm, false, nu, []⟩, s6) by
      unfold attS mapS thenS
      rw [H2.out]
      simp only
      rw [H3.out]
      simp only [valS, Nat.zero_ne_one, if_false, mapS, h6])
    clear hw5 C3 h6
    go_wp2_with fail
    rw [← HW5.out]
    refine Calls.mono HC3.out ?_
    rintro x w6 ⟨rfl, hr6, hg6⟩
    have P6 := Lib.hid (P5.out.gr hg6 hne2)
    have Q6 := Lib.hid (Q5.out.gr hg6 hne)
    have G6 := Lib.hid (G5.out.trans hg6)
    have R6 := Lib.hid hr6
    obtain ⟨w7, hw7⟩ : ∃ W0 : World, W0 = w6.setCell ⟨w2.heap.size, 2, none⟩ (.int .i64 nu) := ⟨_, rfl⟩
    have HW7 := Lib.hid hw7
    have G7 := Lib.hid (show w.grownBy w7 (some p) by rw [hw7]; exact gr_new G6.out (by have := HS2.out; omega) _ _)
    have Q7 := Lib.hid (show Bq w7 w.heap.size 50 #[.string ⟨#[]⟩, .bool false, .int .i64 0, .string ⟨#[]⟩] by rw [hw7]; exact Q6.out.setO (fun e => hneq e.symm) _ _)
    have P7 := Lib.hid (show Bq w7 w2.heap.size 50 #[.string sn, .bool false, .int .i64 nu, .string ⟨#[]⟩] by rw [hw7]; exact P6.out.set 2 _)
    have R7 := Lib.hid (show RdW w7 p z s6 by rw [hw7]; exact R6.out.set hne2 (by have := HZP.out; have := HS2.out; have := HLT.out; omega) _ _)
    clear hw7 hr6 hg6 c0 c1 c2 c3 hf4
    obtain ⟨c0, c1, c2, c3⟩ := P6.out.c4
    have hf6 := P6.out.fr
    go_wp2_with (skip; rw [← HW7.out]; (refine wpList_store_rowTo rfl _ _ _ rfl rfl w.heap.size _ rfl rfl _ #[.string ⟨#[]⟩, .bool false, .int .i64 0, .string ⟨#[]⟩] Q7.out (by kernel_rfl) rfl (by simp [Value.oneCell']) ?_))
    refine ret4 (ty := 50) Try.results62 rfl (Q7.out.row _) rfl ?_
    rw [HRES.out]
    refine ⟨?_, R7.out.row hne (by have := HZP.out; have := HLT.out; omega) _, gr_row G7.out (Nat.le_refl _) _⟩
    simp only
    rw [HSN.out]
    rfl
  · obtain ⟨w5, hw5⟩ : ∃ W0 : World, W0 = w4.setCell ⟨w2.heap.size, 1, none⟩ (.bool true) := ⟨_, rfl⟩
    have HW5 := Lib.hid hw5
    have G5 := Lib.hid (show w.grownBy w5 (some p) by rw [hw5]; exact gr_new G4.out (by have := HS2.out; omega) _ _)
    have Q5 := Lib.hid (show Bq w5 w.heap.size 50 #[.string ⟨#[]⟩, .bool false, .int .i64 0, .string ⟨#[]⟩] by rw [hw5]; exact Q4.out.setO (fun e => hneq e.symm) _ _)
    have P5 := Lib.hid (show Bq w5 w2.heap.size 50 #[.string sn, .bool true, .int .i64 0, .string ⟨#[]⟩] by rw [hw5]; exact P4.out.set 1 _)
    have R5 := Lib.hid (show RdW w5 p z s3 by rw [hw5]; exact R4.out.set hne2 (by have := HZP.out; have := HS2.out; have := HLT.out; omega) _ _)
    obtain ⟨st, s6, h6⟩ : ∃ v t, textS 200 s3 = (v, t) := ⟨_, _, rfl⟩
    have C3 := text_rd p z 200 (by omega) s3 w5 R5.out
    rw [h6] at C3
    obtain ⟨ss, e1, hss⟩ := bs_of2 st
    simp only [e1] at C3
    have HC3 := Lib.hid C3
    have HRES := Lib.hid (show attS s = (⟨nm, true, 0, st⟩, s6) by
      unfold attS mapS thenS
      rw [H2.out]
      simp only
      rw [H3.out]
      simp only [valS, if_true, mapS, h6])
    have HSS := Lib.hid e1
    clear hw5 C3 e1 hss h6
    go_wp2_with fail
    rw [← HW5.out]
    refine Calls.mono HC3.out ?_
    rintro x w6 ⟨rfl, hr6, hg6⟩
    have P6 := Lib.hid (P5.out.gr hg6 hne2)
    have Q6 := Lib.hid (Q5.out.gr hg6 hne)
    have G6 := Lib.hid (G5.out.trans hg6)
    have R6 := Lib.hid hr6
    obtain ⟨w7, hw7⟩ : ∃ W0 : World, W0 = w6.setCell ⟨w2.heap.size, 3, none⟩ (.string ss) := ⟨_, rfl⟩
    have HW7 := Lib.hid hw7
    have G7 := Lib.hid (show w.grownBy w7 (some p) by rw [hw7]; exact gr_new G6.out (by have := HS2.out; omega) _ _)
    have Q7 := Lib.hid (show Bq w7 w.heap.size 50 #[.string ⟨#[]⟩, .bool false, .int .i64 0, .string ⟨#[]⟩] by rw [hw7]; exact Q6.out.setO (fun e => hneq e.symm) _ _)
    have P7 := Lib.hid (show Bq w7 w2.heap.size 50 #[.string sn, .bool true, .int .i64 0, .string ss] by rw [hw7]; exact P6.out.set 3 _)
    have R7 := Lib.hid (show RdW w7 p z s6 by rw [hw7]; exact R6.out.set hne2 (by have := HZP.out; have := HS2.out; have := HLT.out; omega) _ _)
    clear hw7 hr6 hg6 c0 c1 c2 c3 hf4
    obtain ⟨c0, c1, c2, c3⟩ := P6.out.c4
    have hf6 := P6.out.fr
    go_wp2_with (skip; rw [← HW7.out]; (refine wpList_store_rowTo rfl _ _ _ rfl rfl w.heap.size _ rfl rfl _ #[.string ⟨#[]⟩, .bool false, .int .i64 0, .string ⟨#[]⟩] Q7.out (by kernel_rfl) rfl (by simp [Value.oneCell']) ?_))
    refine ret4 (ty := 50) Try.results62 rfl (Q7.out.row _) rfl ?_
    rw [HRES.out]
    refine ⟨?_, R7.out.row hne (by have := HZP.out; have := HLT.out; omega) _, gr_row G7.out (Nat.le_refl _) _⟩
    simp only
    rw [HSN.out, HSS.out]
end Go.Proofs.Ytndgbdbjmogioaa.Wi
