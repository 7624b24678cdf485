/-
  Contract of rect of package wire's reader. All else is left as it was.
-/
import Derived.Test.YtndgbdbjmogioaaWiRdA
namespace Go.Proofs.Ytndgbdbjmogioaa.Wi
open Go.RowKit Go.Proofs.Ytndgbdbjmogioaa.Fl
set_option linter.unusedVariables false
set_option linter.unusedSimpArgs false

set_option maxHeartbeats 4000000
set_option maxRecDepth 100000
theorem rect_rd (p z : Nat) (s s1 s2 s3 s4 : St) (x1 y1 x2 y2 : Int) (h1 : signS s = (x1, s1)) (h2 : signS s1 = (y1, s2)) (h3 : signS s2 = (x2, s3)) (h4 : signS s3 = (y2, s4)) (w : World) (hR : RdW w p z s) :
    Calls Try.prog 51 #[.pointer (some ⟨p, 0, none⟩)] w fun e w' => RdE p z (.agg #[.int .i64 x1, .int .i64 y1, .int .i64 x2, .int .i64 y2]) s4 w w' e := by
  have HLT := Lib.hid hR.lt
  have HZP := Lib.hid hR.zp
  obtain ⟨w1, hw1⟩ : ∃ W0 : World, W0 = (w.alloc (.cells #[.int .i64 0, .int .i64 0, .int .i64 0, .int .i64 0] 23)).alloc (.cells #[.int .i64 0, .int .i64 0, .int .i64 0, .int .i64 0] 23) := ⟨_, rfl⟩
  have HW1 := Lib.hid hw1
  have hsz : (w.alloc (.cells #[.int .i64 0, .int .i64 0, .int .i64 0, .int .i64 0] 23)).heap.size = w.heap.size + 1 := by simp
  have G1 := Lib.hid (show w.grownBy w1 (some p) by rw [hw1]; exact gr_al (World.grownBy_alloc _ _ _) _)
  have Q1 := Lib.hid (show Bq w1 w.heap.size 23 #[.int .i64 0, .int .i64 0, .int .i64 0, .int .i64 0] by rw [hw1]; exact (Bq.new _ _ _).alloc _)
  have P1 := Lib.hid (show Bq w1 (w.heap.size + 1) 23 #[.int .i64 0, .int .i64 0, .int .i64 0, .int .i64 0] by rw [hw1, ← hsz]; exact Bq.new _ _ _)
  have R1 := Lib.hid (show RdW w1 p z s by rw [hw1]; exact (hR.alloc _).alloc _)
  have C := sign_rd p z s w1 R1.out
  rw [h1] at C
  have HC := Lib.hid C
  have H2 := Lib.hid h2
  have H3 := Lib.hid h3
  have H4 := Lib.hid h4
  have hne : ¬ w.heap.size = p := by have := HLT.out; omega
  have hne2 : ¬ w.heap.size + 1 = p := by have := HLT.out; omega
  clear hw1 hR h1 h2 h3 h4 C hsz
  go_enter Try.func51, Try.ntmps51
  go_wp2_with fail
  rw [← HW1.out]
  refine Calls.mono HC.out ?_
  rintro x w2 ⟨rfl, hr2, hg2⟩
  obtain ⟨w3, hw3⟩ : ∃ W0 : World, W0 = w2.setCell ⟨w.heap.size + 1, 0, none⟩ (.int .i64 x1) := ⟨_, rfl⟩
  have HW3 := Lib.hid hw3
  have P2 := Lib.hid (P1.out.gr hg2 hne2)
  have G3 := Lib.hid (show w.grownBy w3 (some p) by rw [hw3]; exact gr_new (G1.out.trans hg2) (by omega) _ _)
  have Q3 := Lib.hid (show Bq w3 w.heap.size 23 #[.int .i64 0, .int .i64 0, .int .i64 0, .int .i64 0] by rw [hw3]; exact (Q1.out.gr hg2 hne).setO (by omega) _ _)
  have P3 := Lib.hid (show Bq w3 (w.heap.size + 1) 23 #[.int .i64 x1, .int .i64 0, .int .i64 0, .int .i64 0] by rw [hw3]; exact P2.out.set 0 _)
  have R3 := Lib.hid (show RdW w3 p z s1 by rw [hw3]; exact hr2.set hne2 (by have := HZP.out; have := HLT.out; omega) _ _)
  have C := sign_rd p z s1 w3 R3.out
  rw [H2.out] at C
  have HC1 := Lib.hid C
  clear hw3 hr2 hg2 C
  obtain ⟨c0, c1, c2, c3⟩ := P2.out.c4
  have hf := P2.out.fr
  go_wp2_with fail
  rw [← HW3.out]
  clear c0 c1 c2 c3 hf
  refine Calls.mono HC1.out ?_
  rintro x w4 ⟨rfl, hr4, hg4⟩
  obtain ⟨w5, hw5⟩ : ∃ W0 : World, W0 = w4.setCell ⟨w.heap.size + 1, 1, none⟩ (.int .i64 y1) := ⟨_, rfl⟩
  have HW5 := Lib.hid hw5
  have P4 := Lib.hid (P3.out.gr hg4 hne2)
  have G5 := Lib.hid (show w.grownBy w5 (some p) by rw [hw5]; exact gr_new (G3.out.trans hg4) (by omega) _ _)
  have Q5 := Lib.hid (show Bq w5 w.heap.size 23 #[.int .i64 0, .int .i64 0, .int .i64 0, .int .i64 0] by rw [hw5]; exact (Q3.out.gr hg4 hne).setO (by omega) _ _)
  have P5 := Lib.hid (show Bq w5 (w.heap.size + 1) 23 #[.int .i64 x1, .int .i64 y1, .int .i64 0, .int .i64 0] by rw [hw5]; exact P4.out.set 1 _)
  have R5 := Lib.hid (show RdW w5 p z s2 by rw [hw5]; exact hr4.set hne2 (by have := HZP.out; have := HLT.out; omega) _ _)
  have C := sign_rd p z s2 w5 R5.out
  rw [H3.out] at C
  have HC2 := Lib.hid C
  clear hw5 hr4 hg4 C
  obtain ⟨c0, c1, c2, c3⟩ := P4.out.c4
  have hf := P4.out.fr
  go_wp2_with fail
  rw [← HW5.out]
  clear c0 c1 c2 c3 hf
  refine Calls.mono HC2.out ?_
  rintro x w6 ⟨rfl, hr6, hg6⟩
  obtain ⟨w7, hw7⟩ : ∃ W0 : World, W0 = w6.setCell ⟨w.heap.size + 1, 2, none⟩ (.int .i64 x2) := ⟨_, rfl⟩
  have HW7 := Lib.hid hw7
  have P6 := Lib.hid (P5.out.gr hg6 hne2)
  have G7 := Lib.hid (show w.grownBy w7 (some p) by rw [hw7]; exact gr_new (G5.out.trans hg6) (by omega) _ _)
  have Q7 := Lib.hid (show Bq w7 w.heap.size 23 #[.int .i64 0, .int .i64 0, .int .i64 0, .int .i64 0] by rw [hw7]; exact (Q5.out.gr hg6 hne).setO (by omega) _ _)
  have P7 := Lib.hid (show Bq w7 (w.heap.size + 1) 23 #[.int .i64 x1, .int .i64 y1, .int .i64 x2, .int .i64 0] by rw [hw7]; exact P6.out.set 2 _)
  have R7 := Lib.hid (show RdW w7 p z s3 by rw [hw7]; exact hr6.set hne2 (by have := HZP.out; have := HLT.out; omega) _ _)
  have C := sign_rd p z s3 w7 R7.out
  rw [H4.out] at C
  have HC3 := Lib.hid C
  clear hw7 hr6 hg6 C
  obtain ⟨c0, c1, c2, c3⟩ := P6.out.c4
  have hf := P6.out.fr
  go_wp2_with fail
  rw [← HW7.out]
  clear c0 c1 c2 c3 hf
  refine Calls.mono HC3.out ?_
  rintro x w8 ⟨rfl, hr8, hg8⟩
  obtain ⟨w9, hw9⟩ : ∃ W0 : World, W0 = w8.setCell ⟨w.heap.size + 1, 3, none⟩ (.int .i64 y2) := ⟨_, rfl⟩
  have HW9 := Lib.hid hw9
  have P8 := Lib.hid (P7.out.gr hg8 hne2)
  have G9 := Lib.hid (show w.grownBy w9 (some p) by rw [hw9]; exact gr_new (G7.out.trans hg8) (by omega) _ _)
  have Q9 := Lib.hid (show Bq w9 w.heap.size 23 #[.int .i64 0, .int .i64 0, .int .i64 0, .int .i64 0] by rw [hw9]; exact (Q7.out.gr hg8 hne).setO (by omega) _ _)
  have P9 := Lib.hid (show Bq w9 (w.heap.size + 1) 23 #[.int .i64 x1, .int .i64 y1, .int .i64 x2, .int .i64 y2] by rw [hw9]; exact P8.out.set 3 _)
  have R9 := Lib.hid (show RdW w9 p z s4 by rw [hw9]; exact hr8.set hne2 (by have := HZP.out; have := HLT.out; omega) _ _)
  clear hw9 hr8 hg8
  obtain ⟨c0, c1, c2, c3⟩ := P8.out.c4
  have hf := P8.out.fr
  go_wp2_with (skip; rw [← HW9.out]; (refine wpList_store_rowTo rfl _ _ _ rfl rfl w.heap.size _ rfl rfl _ #[.int .i64 0, .int .i64 0, .int .i64 0, .int .i64 0] Q9.out (by kernel_rfl) rfl (by simp [Value.oneCell']) ?_))
  refine ret4r (ty := 23) Try.results51 rfl (Q9.out.row _) rfl ?_
  exact ⟨rfl, R9.out.row hne (by have := HZP.out; have := HLT.out; omega) _, gr_row G9.out (Nat.le_refl _) _⟩
end Go.Proofs.Ytndgbdbjmogioaa.Wi
