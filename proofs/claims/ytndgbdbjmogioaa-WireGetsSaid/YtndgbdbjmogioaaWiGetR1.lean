/-
  Contract of the document's Get for layer 10, messages of one kind (1). Memory that was there is left as it was.
-/
import Derived.Test.YtndgbdbjmogioaaWiGetR0
namespace Go.Proofs.Ytndgbdbjmogioaa.Wi
open Go.RowKit Go.Proofs.Ytndgbdbjmogioaa.Fl
set_option linter.unusedVariables false
set_option linter.unusedSimpArgs false

set_option maxHeartbeats 16000000
set_option maxRecDepth 100000
theorem getR_1 (a0 : Option Addr) (c0 : Nat) (l : List UInt8) (w : World) (h : BytesAt w (Old w.heap.size) a0 l) (hc : l.length ≤ c0) (e1 : Nat) (l1 : List UInt8) (hk : numS 4 (0, l) = (1, (e1, l1))) (he : e1 = 0) :
    Calls Try.prog 15 #[.slice a0 l.length c0] w fun e w' => GetRE l w w' e := by
  subst he
  obtain ⟨sub, s2, k1⟩ : ∃ v t, numS 2147483647 (0, l1) = (v, t) := ⟨_, _, rfl⟩
  obtain ⟨ver, s3, k2⟩ : ∃ v t, numS 2147483647 s2 = (v, t) := ⟨_, _, rfl⟩
  obtain ⟨home, s4, k3⟩ : ∃ v t, numS 2147483647 s3 = (v, t) := ⟨_, _, rfl⟩
  obtain ⟨x1, s5, k4⟩ : ∃ v t, signS s4 = (v, t) := ⟨_, _, rfl⟩
  obtain ⟨y1, s6, k5⟩ : ∃ v t, signS s5 = (v, t) := ⟨_, _, rfl⟩
  obtain ⟨x2, s7, k6⟩ : ∃ v t, signS s6 = (v, t) := ⟨_, _, rfl⟩
  obtain ⟨y2, s8, k7⟩ : ∃ v t, signS s7 = (v, t) := ⟨_, _, rfl⟩
  obtain ⟨fl, ⟨E, r⟩, k8⟩ : ∃ v t, textS 500 s8 = (v, t) := ⟨_, _, rfl⟩
  obtain ⟨sf, ef, hsf⟩ := bs_of2 fl
  have hst : stR (0, l) = (0, l1) := by
    unfold stR
    rw [hk]
    rw [if_neg (fun h => by have := h.2; simp at this)]
  have HRES := Lib.hid (show msgR (0, l) = (⟨1, (sub : Nat), (ver : Nat), (home : Nat), x1, y1, x2, y2, fl, ev0⟩, (E, r)) by
    unfold msgR
    rw [hst, hk]
    show insS (0, l1) = _
    unfold insS fewS mapS thenS
    simp only [k1, k2, k3, k4, k5, k6, k7, k8]
    try rfl)
  have H1 := Lib.hid k1
  have H2 := Lib.hid k2
  have H3 := Lib.hid k3
  have H4 := Lib.hid k4
  have H5 := Lib.hid k5
  have H6 := Lib.hid k6
  have H7 := Lib.hid k7
  have H8 := Lib.hid k8
  have HSF := Lib.hid ef
  have HSD := Lib.hid hsf
  obtain ⟨p, hp⟩ : ∃ p, p = w.heap.size + 1 := ⟨_, rfl⟩
  obtain ⟨qm, hqm⟩ : ∃ q, q = w.heap.size + 1 + 1 := ⟨_, rfl⟩
  obtain ⟨n0, hn0⟩ : ∃ n, n = l.length := ⟨_, rfl⟩
  obtain ⟨w1, hw1⟩ : ∃ W0 : World, W0 = w.alloc (.cells #[.int .i64 0, .int .i64 0, .int .i64 0, .int .i64 0, .int .i64 0, .int .i64 0, .int .i64 0, .int .i64 0, .string ⟨#[]⟩, .int .i64 0, .int .u32 0, .int .i64 0, .int .i64 0, .slice none 0 0] 31) := ⟨_, rfl⟩
  have hs1 : w1.heap.size = p := by rw [hw1, hp]; simp
  obtain ⟨w2, hw2⟩ : ∃ W0 : World, W0 = w1.alloc (.cells #[.slice a0 n0 c0, .int .i64 0, .int .i64 0] 71) := ⟨_, rfl⟩
  have hs2 : w2.heap.size = qm := by rw [hw2, hqm, ← hp, ← hs1]; simp
  obtain ⟨w3, hw3⟩ : ∃ W0 : World, W0 = w2.alloc (.cells #[.int .i64 0, .int .i64 0, .int .i64 0, .int .i64 0, .int .i64 0, .int .i64 0, .int .i64 0, .int .i64 0, .string ⟨#[]⟩, .int .i64 0, .int .u32 0, .int .i64 0, .int .i64 0, .slice none 0 0] 31) := ⟨_, rfl⟩
  have G2 := Lib.hid (show w.grownBy w2 (some p) by rw [hw2, hw1]; exact gr_al (World.grownBy_alloc _ _ _) _)
  have R2 := Lib.hid (show RfW w2 p w.heap.size l (0, l) by
    refine ⟨a0, c0, 0, ?_, hc, h.far fun g hg => ⟨hg, G2.out.block g hg (by have : g < w.heap.size := hg; intro e; cases e; omega)⟩, by omega, Nat.zero_le _, fun _ => rfl⟩
    simp only
    rw [hw2, ← hs1, ← hn0]
    exact heap_alloc_new _ _)
  have Q3 := Lib.hid (show Bq w3 w.heap.size 31 #[.int .i64 0, .int .i64 0, .int .i64 0, .int .i64 0, .int .i64 0, .int .i64 0, .int .i64 0, .int .i64 0, .string ⟨#[]⟩, .int .i64 0, .int .u32 0, .int .i64 0, .int .i64 0, .slice none 0 0] by rw [hw3, hw2, hw1]; exact ((Bq.new _ _ _).alloc _).alloc _)
  have P3 := Lib.hid (show Bq w3 qm 31 #[.int .i64 0, .int .i64 0, .int .i64 0, .int .i64 0, .int .i64 0, .int .i64 0, .int .i64 0, .int .i64 0, .string ⟨#[]⟩, .int .i64 0, .int .u32 0, .int .i64 0, .int .i64 0, .slice none 0 0] by rw [hw3, ← hs2]; exact Bq.new _ _ _)
  have G3 := Lib.hid (show w.grownBy w3 (some p) by rw [hw3]; exact gr_al G2.out _)
  have R3 := Lib.hid (show RfW w3 p w.heap.size l (0, l) by rw [hw3]; exact R2.out.alloc _)
  have C := number_rf p w.heap.size 4 (by unfold mx; omega) l (0, l) w3 R3.out
  rw [hk] at C
  have HC := Lib.hid C
  have HW1 := Lib.hid hw1
  have HW2 := Lib.hid hw2
  have HW3 := Lib.hid hw3
  have HPS := Lib.hid hp
  have HQM := Lib.hid hqm
  have HN0 := Lib.hid hn0
  have hne : ¬ w.heap.size = p := by omega
  have hne' : ¬ p = w.heap.size := by omega
  have hne2 : ¬ qm = p := by omega
  have hne2' : ¬ p = qm := by omega
  have hneq : ¬ qm = w.heap.size := by omega
  have hneq2 : ¬ w.heap.size = qm := by omega
  have h63 : n0 ≤ 9223372036854775807 := by have := h.1; unfold maxLen at this; omega
  have HZQ := Lib.hid (show w.heap.size ≤ qm by omega)
  rw [← hn0]
  clear hw1 hw2 hw3 C hs1 hs2 h hc hn0 hk hst k1 k2 k3 k4 k5 k6 k7 k8 ef hsf 
  go_enter Try.func15, Try.ntmps15
  go_wp2_with fail
  rw [← HW1.out, ← HW2.out, ← HW3.out]
  try rw [← HQM.out]
  try rw [← HPS.out]
  clear hp hqm
  refine Calls.mono HC.out ?_
  rintro x w4 ⟨rfl, hr4, hg4⟩
  have G4 := Lib.hid (G3.out.trans hg4)
  have Q4 := Lib.hid (Q3.out.gr hg4 hne)
  have P4 := Lib.hid (P3.out.gr hg4 hne2)
  have R4 := Lib.hid hr4
  clear hr4 hg4
  obtain ⟨w5, hw5⟩ : ∃ W0 : World, W0 = w4.setCell ⟨qm, 0, none⟩ (.int .i64 1) := ⟨_, rfl⟩
  have HW5 := Lib.hid hw5
  have G5 := Lib.hid (show w.grownBy w5 (some p) by rw [hw5]; exact gr_new G4.out HZQ.out _ _)
  have Q5 := Lib.hid (show Bq w5 w.heap.size 31 #[.int .i64 0, .int .i64 0, .int .i64 0, .int .i64 0, .int .i64 0, .int .i64 0, .int .i64 0, .int .i64 0, .string ⟨#[]⟩, .int .i64 0, .int .u32 0, .int .i64 0, .int .i64 0, .slice none 0 0] by rw [hw5]; exact Q4.out.setO hneq2 _ _)
  have P5 := Lib.hid (show Bq w5 qm 31 #[.int .i64 1, .int .i64 0, .int .i64 0, .int .i64 0, .int .i64 0, .int .i64 0, .int .i64 0, .int .i64 0, .string ⟨#[]⟩, .int .i64 0, .int .u32 0, .int .i64 0, .int .i64 0, .slice none 0 0] by rw [hw5]; exact P4.out.set 0 _)
  have R5 := Lib.hid (show RfW w5 p w.heap.size l (0, l1) by rw [hw5]; exact R4.out.set hne2 HZQ.out _ _)
  clear hw5
  obtain ⟨c0, c1, c2, c3, c4, c5, c6, c7, c8, c9, c10, c11, c12, c13⟩ := P4.out.c14
  have hf := P4.out.fr
  obtain ⟨ra, rc, rk, hrb, hrc, hrby, hrz, hrk, hre⟩ := R4.out
  simp only at hrb hre
  rw [← HN0.out] at hrb
  obtain ⟨b0, b1, b2⟩ := hrb.c3
  have bf := hrb.fr
  clear hrb hrc hrby hrz hrk hre
  go_wp2_with fail
  rw [← HW5.out]
  clear c0 c1 c2 c3 c4 c5 c6 c7 c8 c9 c10 c11 c12 c13 hf b0 b1 b2 bf
  have C := few_rf p w.heap.size l (0, l1) w5 R5.out
  rw [H1.out] at C
  have HC5 := Lib.hid C
  clear C
  refine Calls.mono HC5.out ?_
  rintro x w6 ⟨rfl, hr6, hg6⟩
  obtain ⟨w7, hw7⟩ : ∃ W0 : World, W0 = (w6.setCell ⟨qm, 1, none⟩ (.int .i64 (sub : Nat))) := ⟨_, rfl⟩
  have HW7 := Lib.hid hw7
  have P6 := Lib.hid (P5.out.gr hg6 hne2)
  have G7 := Lib.hid (show w.grownBy w7 (some p) by rw [hw7]; exact gr_new (G5.out.trans hg6) HZQ.out _ _)
  have Q7 := Lib.hid (show Bq w7 w.heap.size 31 #[.int .i64 0, .int .i64 0, .int .i64 0, .int .i64 0, .int .i64 0, .int .i64 0, .int .i64 0, .int .i64 0, .string ⟨#[]⟩, .int .i64 0, .int .u32 0, .int .i64 0, .int .i64 0, .slice none 0 0] by rw [hw7]; exact (Q5.out.gr hg6 hne).setO hneq2 _ _)
  have P7 := Lib.hid (show Bq w7 qm 31 #[.int .i64 1, .int .i64 (sub : Nat), .int .i64 0, .int .i64 0, .int .i64 0, .int .i64 0, .int .i64 0, .int .i64 0, .string ⟨#[]⟩, .int .i64 0, .int .u32 0, .int .i64 0, .int .i64 0, .slice none 0 0] by rw [hw7]; exact (P6.out).set 1 _)
  have R7 := Lib.hid (show RfW w7 p w.heap.size l s2 by rw [hw7]; exact (hr6).set hne2 HZQ.out _ _)
  clear hw7 hr6 hg6 
  obtain ⟨c0, c1, c2, c3, c4, c5, c6, c7, c8, c9, c10, c11, c12, c13⟩ := P6.out.c14
  have hf := P6.out.fr
  go_wp2_with fail
  rw [← HW7.out]
  clear c0 c1 c2 c3 c4 c5 c6 c7 c8 c9 c10 c11 c12 c13 hf
  have C := few_rf p w.heap.size l s2 w7 R7.out
  rw [H2.out] at C
  have HC7 := Lib.hid C
  clear C
  refine Calls.mono HC7.out ?_
  rintro x w8 ⟨rfl, hr8, hg8⟩
  obtain ⟨w9, hw9⟩ : ∃ W0 : World, W0 = (w8.setCell ⟨qm, 2, none⟩ (.int .i64 (ver : Nat))) := ⟨_, rfl⟩
  have HW9 := Lib.hid hw9
  have P8 := Lib.hid (P7.out.gr hg8 hne2)
  have G9 := Lib.hid (show w.grownBy w9 (some p) by rw [hw9]; exact gr_new (G7.out.trans hg8) HZQ.out _ _)
  have Q9 := Lib.hid (show Bq w9 w.heap.size 31 #[.int .i64 0, .int .i64 0, .int .i64 0, .int .i64 0, .int .i64 0, .int .i64 0, .int .i64 0, .int .i64 0, .string ⟨#[]⟩, .int .i64 0, .int .u32 0, .int .i64 0, .int .i64 0, .slice none 0 0] by rw [hw9]; exact (Q7.out.gr hg8 hne).setO hneq2 _ _)
  have P9 := Lib.hid (show Bq w9 qm 31 #[.int .i64 1, .int .i64 (sub : Nat), .int .i64 (ver : Nat), .int .i64 0, .int .i64 0, .int .i64 0, .int .i64 0, .int .i64 0, .string ⟨#[]⟩, .int .i64 0, .int .u32 0, .int .i64 0, .int .i64 0, .slice none 0 0] by rw [hw9]; exact (P8.out).set 2 _)
  have R9 := Lib.hid (show RfW w9 p w.heap.size l s3 by rw [hw9]; exact (hr8).set hne2 HZQ.out _ _)
  clear hw9 hr8 hg8 
  obtain ⟨c0, c1, c2, c3, c4, c5, c6, c7, c8, c9, c10, c11, c12, c13⟩ := P8.out.c14
  have hf := P8.out.fr
  go_wp2_with fail
  rw [← HW9.out]
  clear c0 c1 c2 c3 c4 c5 c6 c7 c8 c9 c10 c11 c12 c13 hf
  have C := few_rf p w.heap.size l s3 w9 R9.out
  rw [H3.out] at C
  have HC9 := Lib.hid C
  clear C
  refine Calls.mono HC9.out ?_
  rintro x w10 ⟨rfl, hr10, hg10⟩
  obtain ⟨w11, hw11⟩ : ∃ W0 : World, W0 = (w10.setCell ⟨qm, 3, none⟩ (.int .i64 (home : Nat))) := ⟨_, rfl⟩
  have HW11 := Lib.hid hw11
  have P10 := Lib.hid (P9.out.gr hg10 hne2)
  have G11 := Lib.hid (show w.grownBy w11 (some p) by rw [hw11]; exact gr_new (G9.out.trans hg10) HZQ.out _ _)
  have Q11 := Lib.hid (show Bq w11 w.heap.size 31 #[.int .i64 0, .int .i64 0, .int .i64 0, .int .i64 0, .int .i64 0, .int .i64 0, .int .i64 0, .int .i64 0, .string ⟨#[]⟩, .int .i64 0, .int .u32 0, .int .i64 0, .int .i64 0, .slice none 0 0] by rw [hw11]; exact (Q9.out.gr hg10 hne).setO hneq2 _ _)
  have P11 := Lib.hid (show Bq w11 qm 31 #[.int .i64 1, .int .i64 (sub : Nat), .int .i64 (ver : Nat), .int .i64 (home : Nat), .int .i64 0, .int .i64 0, .int .i64 0, .int .i64 0, .string ⟨#[]⟩, .int .i64 0, .int .u32 0, .int .i64 0, .int .i64 0, .slice none 0 0] by rw [hw11]; exact (P10.out).set 3 _)
  have R11 := Lib.hid (show RfW w11 p w.heap.size l s4 by rw [hw11]; exact (hr10).set hne2 HZQ.out _ _)
  clear hw11 hr10 hg10 
  obtain ⟨c0, c1, c2, c3, c4, c5, c6, c7, c8, c9, c10, c11, c12, c13⟩ := P10.out.c14
  have hf := P10.out.fr
  go_wp2_with fail
  rw [← HW11.out]
  clear c0 c1 c2 c3 c4 c5 c6 c7 c8 c9 c10 c11 c12 c13 hf
  have C := sign_rf p w.heap.size l s4 w11 R11.out
  rw [H4.out] at C
  have HC11 := Lib.hid C
  clear C
  refine Calls.mono HC11.out ?_
  rintro x w12 ⟨rfl, hr12, hg12⟩
  obtain ⟨w13, hw13⟩ : ∃ W0 : World, W0 = (w12.setCell ⟨qm, 4, none⟩ (.int .i64 x1)) := ⟨_, rfl⟩
  have HW13 := Lib.hid hw13
  have P12 := Lib.hid (P11.out.gr hg12 hne2)
  have G13 := Lib.hid (show w.grownBy w13 (some p) by rw [hw13]; exact gr_new (G11.out.trans hg12) HZQ.out _ _)
  have Q13 := Lib.hid (show Bq w13 w.heap.size 31 #[.int .i64 0, .int .i64 0, .int .i64 0, .int .i64 0, .int .i64 0, .int .i64 0, .int .i64 0, .int .i64 0, .string ⟨#[]⟩, .int .i64 0, .int .u32 0, .int .i64 0, .int .i64 0, .slice none 0 0] by rw [hw13]; exact (Q11.out.gr hg12 hne).setO hneq2 _ _)
  have P13 := Lib.hid (show Bq w13 qm 31 #[.int .i64 1, .int .i64 (sub : Nat), .int .i64 (ver : Nat), .int .i64 (home : Nat), .int .i64 x1, .int .i64 0, .int .i64 0, .int .i64 0, .string ⟨#[]⟩, .int .i64 0, .int .u32 0, .int .i64 0, .int .i64 0, .slice none 0 0] by rw [hw13]; exact (P12.out).set 4 _)
  have R13 := Lib.hid (show RfW w13 p w.heap.size l s5 by rw [hw13]; exact (hr12).set hne2 HZQ.out _ _)
  clear hw13 hr12 hg12 
  obtain ⟨c0, c1, c2, c3, c4, c5, c6, c7, c8, c9, c10, c11, c12, c13⟩ := P12.out.c14
  have hf := P12.out.fr
  go_wp2_with fail
  rw [← HW13.out]
  clear c0 c1 c2 c3 c4 c5 c6 c7 c8 c9 c10 c11 c12 c13 hf
  have C := sign_rf p w.heap.size l s5 w13 R13.out
  rw [H5.out] at C
  have HC13 := Lib.hid C
  clear C
  refine Calls.mono HC13.out ?_
  rintro x w14 ⟨rfl, hr14, hg14⟩
  obtain ⟨w15, hw15⟩ : ∃ W0 : World, W0 = (w14.setCell ⟨qm, 5, none⟩ (.int .i64 y1)) := ⟨_, rfl⟩
  have HW15 := Lib.hid hw15
  have P14 := Lib.hid (P13.out.gr hg14 hne2)
  have G15 := Lib.hid (show w.grownBy w15 (some p) by rw [hw15]; exact gr_new (G13.out.trans hg14) HZQ.out _ _)
  have Q15 := Lib.hid (show Bq w15 w.heap.size 31 #[.int .i64 0, .int .i64 0, .int .i64 0, .int .i64 0, .int .i64 0, .int .i64 0, .int .i64 0, .int .i64 0, .string ⟨#[]⟩, .int .i64 0, .int .u32 0, .int .i64 0, .int .i64 0, .slice none 0 0] by rw [hw15]; exact (Q13.out.gr hg14 hne).setO hneq2 _ _)
  have P15 := Lib.hid (show Bq w15 qm 31 #[.int .i64 1, .int .i64 (sub : Nat), .int .i64 (ver : Nat), .int .i64 (home : Nat), .int .i64 x1, .int .i64 y1, .int .i64 0, .int .i64 0, .string ⟨#[]⟩, .int .i64 0, .int .u32 0, .int .i64 0, .int .i64 0, .slice none 0 0] by rw [hw15]; exact (P14.out).set 5 _)
  have R15 := Lib.hid (show RfW w15 p w.heap.size l s6 by rw [hw15]; exact (hr14).set hne2 HZQ.out _ _)
  clear hw15 hr14 hg14 
  obtain ⟨c0, c1, c2, c3, c4, c5, c6, c7, c8, c9, c10, c11, c12, c13⟩ := P14.out.c14
  have hf := P14.out.fr
  go_wp2_with fail
  rw [← HW15.out]
  clear c0 c1 c2 c3 c4 c5 c6 c7 c8 c9 c10 c11 c12 c13 hf
  have C := sign_rf p w.heap.size l s6 w15 R15.out
  rw [H6.out] at C
  have HC15 := Lib.hid C
  clear C
  refine Calls.mono HC15.out ?_
  rintro x w16 ⟨rfl, hr16, hg16⟩
  obtain ⟨w17, hw17⟩ : ∃ W0 : World, W0 = (w16.setCell ⟨qm, 6, none⟩ (.int .i64 x2)) := ⟨_, rfl⟩
  have HW17 := Lib.hid hw17
  have P16 := Lib.hid (P15.out.gr hg16 hne2)
  have G17 := Lib.hid (show w.grownBy w17 (some p) by rw [hw17]; exact gr_new (G15.out.trans hg16) HZQ.out _ _)
  have Q17 := Lib.hid (show Bq w17 w.heap.size 31 #[.int .i64 0, .int .i64 0, .int .i64 0, .int .i64 0, .int .i64 0, .int .i64 0, .int .i64 0, .int .i64 0, .string ⟨#[]⟩, .int .i64 0, .int .u32 0, .int .i64 0, .int .i64 0, .slice none 0 0] by rw [hw17]; exact (Q15.out.gr hg16 hne).setO hneq2 _ _)
  have P17 := Lib.hid (show Bq w17 qm 31 #[.int .i64 1, .int .i64 (sub : Nat), .int .i64 (ver : Nat), .int .i64 (home : Nat), .int .i64 x1, .int .i64 y1, .int .i64 x2, .int .i64 0, .string ⟨#[]⟩, .int .i64 0, .int .u32 0, .int .i64 0, .int .i64 0, .slice none 0 0] by rw [hw17]; exact (P16.out).set 6 _)
  have R17 := Lib.hid (show RfW w17 p w.heap.size l s7 by rw [hw17]; exact (hr16).set hne2 HZQ.out _ _)
  clear hw17 hr16 hg16 
  obtain ⟨c0, c1, c2, c3, c4, c5, c6, c7, c8, c9, c10, c11, c12, c13⟩ := P16.out.c14
  have hf := P16.out.fr
  go_wp2_with fail
  rw [← HW17.out]
  clear c0 c1 c2 c3 c4 c5 c6 c7 c8 c9 c10 c11 c12 c13 hf
  have C := sign_rf p w.heap.size l s7 w17 R17.out
  rw [H7.out] at C
  have HC17 := Lib.hid C
  clear C
  refine Calls.mono HC17.out ?_
  rintro x w18 ⟨rfl, hr18, hg18⟩
  obtain ⟨w19, hw19⟩ : ∃ W0 : World, W0 = (w18.setCell ⟨qm, 7, none⟩ (.int .i64 y2)) := ⟨_, rfl⟩
  have HW19 := Lib.hid hw19
  have P18 := Lib.hid (P17.out.gr hg18 hne2)
  have G19 := Lib.hid (show w.grownBy w19 (some p) by rw [hw19]; exact gr_new (G17.out.trans hg18) HZQ.out _ _)
  have Q19 := Lib.hid (show Bq w19 w.heap.size 31 #[.int .i64 0, .int .i64 0, .int .i64 0, .int .i64 0, .int .i64 0, .int .i64 0, .int .i64 0, .int .i64 0, .string ⟨#[]⟩, .int .i64 0, .int .u32 0, .int .i64 0, .int .i64 0, .slice none 0 0] by rw [hw19]; exact (Q17.out.gr hg18 hne).setO hneq2 _ _)
  have P19 := Lib.hid (show Bq w19 qm 31 #[.int .i64 1, .int .i64 (sub : Nat), .int .i64 (ver : Nat), .int .i64 (home : Nat), .int .i64 x1, .int .i64 y1, .int .i64 x2, .int .i64 y2, .string ⟨#[]⟩, .int .i64 0, .int .u32 0, .int .i64 0, .int .i64 0, .slice none 0 0] by rw [hw19]; exact (P18.out).set 7 _)
  have R19 := Lib.hid (show RfW w19 p w.heap.size l s8 by rw [hw19]; exact (hr18).set hne2 HZQ.out _ _)
  clear hw19 hr18 hg18 
  obtain ⟨c0, c1, c2, c3, c4, c5, c6, c7, c8, c9, c10, c11, c12, c13⟩ := P18.out.c14
  have hf := P18.out.fr
  go_wp2_with fail
  rw [← HW19.out]
  clear c0 c1 c2 c3 c4 c5 c6 c7 c8 c9 c10 c11 c12 c13 hf
  have C := text_rf p w.heap.size 500 (by omega) l s8 w19 R19.out
  rw [H8.out] at C
  rw [show bs (fl, (E, r)).1 = .string sf from HSF.out] at C
  have HC19 := Lib.hid C
  clear C
  refine Calls.mono HC19.out ?_
  rintro x w20 ⟨rfl, hr20, hg20⟩
  obtain ⟨w21, hw21⟩ : ∃ W0 : World, W0 = (w20.setCell ⟨qm, 8, none⟩ (.string sf)) := ⟨_, rfl⟩
  have HW21 := Lib.hid hw21
  have P20 := Lib.hid (P19.out.gr hg20 hne2)
  have G21 := Lib.hid (show w.grownBy w21 (some p) by rw [hw21]; exact gr_new (G19.out.trans hg20) HZQ.out _ _)
  have Q21 := Lib.hid (show Bq w21 w.heap.size 31 #[.int .i64 0, .int .i64 0, .int .i64 0, .int .i64 0, .int .i64 0, .int .i64 0, .int .i64 0, .int .i64 0, .string ⟨#[]⟩, .int .i64 0, .int .u32 0, .int .i64 0, .int .i64 0, .slice none 0 0] by rw [hw21]; exact (Q19.out.gr hg20 hne).setO hneq2 _ _)
  have P21 := Lib.hid (show Bq w21 qm 31 #[.int .i64 1, .int .i64 (sub : Nat), .int .i64 (ver : Nat), .int .i64 (home : Nat), .int .i64 x1, .int .i64 y1, .int .i64 x2, .int .i64 y2, .string sf, .int .i64 0, .int .u32 0, .int .i64 0, .int .i64 0, .slice none 0 0] by rw [hw21]; exact (P20.out).set 8 _)
  have R21 := Lib.hid (show RfW w21 p w.heap.size l (E, r) by rw [hw21]; exact (hr20).set hne2 HZQ.out _ _)
  clear hw21 hr20 hg20 
  obtain ⟨c0, c1, c2, c3, c4, c5, c6, c7, c8, c9, c10, c11, c12, c13⟩ := P20.out.c14
  have hf := P20.out.fr
  go_wp2_with fail
  rw [← HW21.out]
  clear c0 c1 c2 c3 c4 c5 c6 c7 c8 c9 c10 c11 c12 c13 hf
  have C := mayR_any ⟨1, (sub : Nat), (ver : Nat), (home : Nat), x1, y1, x2, y2, fl, ev0⟩ sf HSD.out none 0 w21 (atts_none2 _ _ _)
  obtain ⟨mb, hmb⟩ : ∃ b, msgB ⟨1, (sub : Nat), (ver : Nat), (home : Nat), x1, y1, x2, y2, fl, ev0⟩ = b := ⟨_, rfl⟩
  rw [hmb] at C
  have HMB := Lib.hid hmb
  have HC21 := Lib.hid C
  clear C hmb
  refine Calls.mono HC21.out ?_
  rintro x wx ⟨rfl, hb⟩
  have Gx := Lib.hid (gr_below G21.out hb)
  have Qx := Lib.hid (Q21.out.later hb)
  have Px := Lib.hid (P21.out.later hb)
  have Rx := Lib.hid (R21.out.later hb)
  clear hb
  have HRD := Lib.hid (show readM l = if E = 0 then (if r.length = 0 ∧ mb = true then (0, ⟨1, (sub : Nat), (ver : Nat), (home : Nat), x1, y1, x2, y2, fl, ev0⟩) else (7, msg0)) else (E, msg0) by
    rw [← end_R, HRES.out]
    unfold endS
    simp only [HMB.out])
  obtain ⟨ra, rc, rk, hrb, hrc, hrby, hrz, hrk, hre⟩ := Rx.out
  simp only at hrb hre
  rw [← HN0.out] at hrb hrk
  obtain ⟨b0, b1, b2⟩ := hrb.c3
  have bf := hrb.fr
  have RB := Lib.hid hrb
  have HRE := Lib.hid (show E = 0 → r.length = n0 - rk from fun h => by rw [hre h, List.length_drop, ← HN0.out])
  have HRK := Lib.hid hrk
  clear hrb hrc hrby hrz hrk hre
  by_cases hE : E = 0
  · by_cases hlt : rk < n0
    · have HRR := Lib.hid (show readM l = (7, msg0) by rw [HRD.out, if_pos hE, if_neg (fun h => by have := HRE.out hE; have := h.1; omega)])
      subst hE
      have hlz : (rk : Int) < (n0 : Int) := by omega
      obtain ⟨wy, hwy⟩ : ∃ W0 : World, W0 = wx.setCell ⟨p, 2, none⟩ (.int .i64 7) := ⟨_, rfl⟩
      have HWY := Lib.hid hwy
      have QY := Lib.hid (show Bq wy w.heap.size 31 #[.int .i64 0, .int .i64 0, .int .i64 0, .int .i64 0, .int .i64 0, .int .i64 0, .int .i64 0, .int .i64 0, .string ⟨#[]⟩, .int .i64 0, .int .u32 0, .int .i64 0, .int .i64 0, .slice none 0 0] by rw [hwy]; exact Qx.out.setO hne _ _)
      have GY := Lib.hid (show w.grownBy wy (some p) by rw [hwy]; exact gr_p Gx.out _ _)
      have BY := Lib.hid (show Bq wy p 71 #[.slice ra n0 rc, .int .i64 (rk : Nat), .int .i64 7] by rw [hwy]; exact RB.out.set 2 _)
      clear hwy
      go_wp2_with fail
      rw [← HWY.out]
      clear b0 b1 b2 bf
      obtain ⟨b0, b1, b2⟩ := BY.out.c3
      have bf := BY.out.fr
      have QD := Lib.hid (show Bq wy.drew w.heap.size 31 #[.int .i64 0, .int .i64 0, .int .i64 0, .int .i64 0, .int .i64 0, .int .i64 0, .int .i64 0, .int .i64 0, .string ⟨#[]⟩, .int .i64 0, .int .u32 0, .int .i64 0, .int .i64 0, .slice none 0 0] from QY.out)
      have HS0 := Lib.hid (show (fun W => W.cell? ⟨p, 2, none⟩ = some (.int .i64 7) ∧ ∃ cs, Bq W w.heap.size 31 cs ∧ cs.size = 14) wy.drew from ⟨b2, _, QY.out, rfl⟩)
      refine wp_region_held_drew (S := (fun W => W.cell? ⟨p, 2, none⟩ = some (.int .i64 7) ∧ ∃ cs, Bq W w.heap.size 31 cs ∧ cs.size = 14)) (by kernel_rfl) HS0.out (fun hHeld => ?_)
      clear b0 b1 b2 bf
      refine wpAnyH_take (i := 0) (v := ?vA0) rfl (by kernel_rfl) (by kernel_rfl) (by kernel_rfl) (fun _ _ _ h => h) (Or.inl ⟨by rfl, ?yA0⟩) hHeld ?rA0
      case yA0 => (intro W hSw; simp only [List.getElem_toArray, List.getElem_cons_succ, List.getElem_cons_zero]; go_simp; try (with_reducible rfl))
      simp only [List.getElem_toArray, List.getElem_cons_succ, List.getElem_cons_zero, Act.put, List.setIfInBounds_toArray, List.set_cons_zero, List.set_cons_succ]
      refine wpAnyH_take (i := 1) (v := ?vA1) rfl (by kernel_rfl) (by kernel_rfl) (by kernel_rfl) (fun _ _ _ h => h) (Or.inl ⟨by rfl, ?yA1⟩) hHeld ?rA1
      case yA1 => (intro W hSw; simp only [List.getElem_toArray, List.getElem_cons_succ, List.getElem_cons_zero]; go_simp; try (with_reducible rfl))
      simp only [List.getElem_toArray, List.getElem_cons_succ, List.getElem_cons_zero, Act.put, List.setIfInBounds_toArray, List.set_cons_zero, List.set_cons_succ]
      refine wpAnyH_take (i := 2) (v := ?vA2) rfl (by kernel_rfl) (by kernel_rfl) (by kernel_rfl) (fun _ _ _ h => h) (Or.inl ⟨by rfl, ?yA2⟩) hHeld ?rA2
      case yA2 => (intro W hSw; simp only [List.getElem_toArray, List.getElem_cons_succ, List.getElem_cons_zero]; go_simp; try (with_reducible rfl))
      simp only [List.getElem_toArray, List.getElem_cons_succ, List.getElem_cons_zero, Act.put, List.setIfInBounds_toArray, List.set_cons_zero, List.set_cons_succ]
      refine wpAnyH_take (i := 3) (v := ?vA3) rfl (by kernel_rfl) (by kernel_rfl) (by kernel_rfl) (fun _ _ _ h => h) (Or.inl ⟨by rfl, ?yA3⟩) hHeld ?rA3
      case yA3 => (intro W hSw; simp only [List.getElem_toArray, List.getElem_cons_succ, List.getElem_cons_zero]; go_simp; try (with_reducible rfl))
      simp only [List.getElem_toArray, List.getElem_cons_succ, List.getElem_cons_zero, Act.put, List.setIfInBounds_toArray, List.set_cons_zero, List.set_cons_succ]
      refine wpAnyH_take (i := 4) (v := ?vA4) rfl (by kernel_rfl) (by kernel_rfl) (by kernel_rfl) (fun _ _ _ h => h) (Or.inl ⟨by rfl, ?yA4⟩) hHeld ?rA4
      case yA4 => (intro W hSw; simp only [List.getElem_toArray, List.getElem_cons_succ, List.getElem_cons_zero]; go_simp; try (with_reducible rfl))
      simp only [List.getElem_toArray, List.getElem_cons_succ, List.getElem_cons_zero, Act.put, List.setIfInBounds_toArray, List.set_cons_zero, List.set_cons_succ]
      refine wpAnyH_ready (rs := [5]) (by kernel_rfl) (by simp) (AllReadyH.cons rfl (fun K hK => ?_) AllReadyH.nil)
      simp only [List.getElem_toArray, List.getElem_cons_succ, List.getElem_cons_zero]
      refine wp_store_row _ _ _ rfl w.heap.size #[.int .i64 0, .int .i64 0, .int .i64 0, .int .i64 0, .int .i64 0, .int .i64 0, .int .i64 0, .int .i64 0, .string ⟨#[]⟩, .int .i64 0, .int .u32 0, .int .i64 0, .int .i64 0, .slice none 0 0] rfl rfl _ _ QD.out (by kernel_rfl) rfl (by simp [Value.oneCell']) ?_
      refine hK.out _ _ (⟨(World.cell?_of_block (w := wy.drew) (a := ⟨p, 2, none⟩) (setRow_other _ _ _ _ (fun e => hne e.symm))).trans hHeld.1, _, QD.out.row _, rfl⟩) (fun hHeld1 => ?_)
      clear hK K hHeld
      have hHeld := hHeld1; clear hHeld1
      try simp only [List.getElem_toArray, List.getElem_cons_succ, List.getElem_cons_zero, Act.put, List.setIfInBounds_toArray, List.set_cons_zero, List.set_cons_succ]
      refine wpAnyH_take (i := 6) (v := ?vA6) rfl (by kernel_rfl) (by kernel_rfl) (by kernel_rfl) (fun _ _ _ h => h) (Or.inl ⟨by rfl, ?yA6⟩) hHeld ?rA6
      case yA6 => (intro W hSw; simp only [List.getElem_toArray, List.getElem_cons_succ, List.getElem_cons_zero]; go_simp; try (with_reducible rfl))
      simp only [List.getElem_toArray, List.getElem_cons_succ, List.getElem_cons_zero, Act.put, List.setIfInBounds_toArray, List.set_cons_zero, List.set_cons_succ]
      refine wpAnyH_done (by kernel_rfl) ?_ _
      clear hHeld
      go_wp2_with fail
      refine ret14b Try.results15 rfl rfl (QD.out.row _) rfl ?_
      refine ⟨none, 0, ?_, ?_, ?_⟩
      · rw [HRR.out]
        rfl
      · rw [HRR.out]
        exact atts_none2 _ _ _
      · exact ⟨GY.out.os, GY.out.tape, GY.out.output, by have := GY.out.size; simpa using this, fun k hk => (setRow_other _ _ _ _ (by omega)).trans (GY.out.block k hk (by have := HPS.out; intro e; cases e; omega))⟩
    · have hlz : ¬ (rk : Int) < (n0 : Int) := by omega
      by_cases hmt : mb = true
      · have HRR := Lib.hid (show readM l = (0, ⟨1, (sub : Nat), (ver : Nat), (home : Nat), x1, y1, x2, y2, fl, ev0⟩) by rw [HRD.out, if_pos hE, if_pos ⟨by have := HRE.out hE; omega, hmt⟩])
        subst hE
        subst hmt
        obtain ⟨c0, c1, c2, c3, c4, c5, c6, c7, c8, c9, c10, c11, c12, c13⟩ := Px.out.c14
        go_wp2_with (skip; (refine wpList_store_rowTo rfl _ _ _ rfl rfl w.heap.size _ rfl rfl _ #[.int .i64 0, .int .i64 0, .int .i64 0, .int .i64 0, .int .i64 0, .int .i64 0, .int .i64 0, .int .i64 0, .string ⟨#[]⟩, .int .i64 0, .int .u32 0, .int .i64 0, .int .i64 0, .slice none 0 0] Qx.out (by kernel_rfl) rfl (by simp [Value.oneCell']) ?_))
        refine ret14b Try.results15 rfl rfl (Qx.out.row _) rfl ?_
        refine ⟨none, 0, ?_, ?_, ?_⟩
        · rw [HRR.out]
          unfold msgV
          simp only [HSF.out]
          rfl
        · rw [HRR.out]
          exact atts_none2 _ _ _
        · exact ⟨Gx.out.os, Gx.out.tape, Gx.out.output, by have := Gx.out.size; simpa using this, fun k hk => (setRow_other _ _ _ _ (by omega)).trans (Gx.out.block k hk (by have := HPS.out; intro e; cases e; omega))⟩
      · have HRR := Lib.hid (show readM l = (7, msg0) by rw [HRD.out, if_pos hE, if_neg (fun h => hmt h.2)])
        subst hE
        obtain rfl : mb = false := by simpa using hmt
        obtain ⟨wy, hwy⟩ : ∃ W0 : World, W0 = wx.setCell ⟨p, 2, none⟩ (.int .i64 7) := ⟨_, rfl⟩
        have HWY := Lib.hid hwy
        have QY := Lib.hid (show Bq wy w.heap.size 31 #[.int .i64 0, .int .i64 0, .int .i64 0, .int .i64 0, .int .i64 0, .int .i64 0, .int .i64 0, .int .i64 0, .string ⟨#[]⟩, .int .i64 0, .int .u32 0, .int .i64 0, .int .i64 0, .slice none 0 0] by rw [hwy]; exact Qx.out.setO hne _ _)
        have GY := Lib.hid (show w.grownBy wy (some p) by rw [hwy]; exact gr_p Gx.out _ _)
        have BY := Lib.hid (show Bq wy p 71 #[.slice ra n0 rc, .int .i64 (rk : Nat), .int .i64 7] by rw [hwy]; exact RB.out.set 2 _)
        clear hwy
        go_wp2_with fail
        rw [← HWY.out]
        clear b0 b1 b2 bf
        obtain ⟨b0, b1, b2⟩ := BY.out.c3
        have bf := BY.out.fr
        have QD := Lib.hid (show Bq wy.drew w.heap.size 31 #[.int .i64 0, .int .i64 0, .int .i64 0, .int .i64 0, .int .i64 0, .int .i64 0, .int .i64 0, .int .i64 0, .string ⟨#[]⟩, .int .i64 0, .int .u32 0, .int .i64 0, .int .i64 0, .slice none 0 0] from QY.out)
        have HS0 := Lib.hid (show (fun W => W.cell? ⟨p, 2, none⟩ = some (.int .i64 7) ∧ ∃ cs, Bq W w.heap.size 31 cs ∧ cs.size = 14) wy.drew from ⟨b2, _, QY.out, rfl⟩)
        refine wp_region_held_drew (S := (fun W => W.cell? ⟨p, 2, none⟩ = some (.int .i64 7) ∧ ∃ cs, Bq W w.heap.size 31 cs ∧ cs.size = 14)) (by kernel_rfl) HS0.out (fun hHeld => ?_)
        clear b0 b1 b2 bf
        refine wpAnyH_take (i := 0) (v := ?vB0) rfl (by kernel_rfl) (by kernel_rfl) (by kernel_rfl) (fun _ _ _ h => h) (Or.inl ⟨by rfl, ?yB0⟩) hHeld ?rB0
        case yB0 => (intro W hSw; simp only [List.getElem_toArray, List.getElem_cons_succ, List.getElem_cons_zero]; go_simp; try (with_reducible rfl))
        simp only [List.getElem_toArray, List.getElem_cons_succ, List.getElem_cons_zero, Act.put, List.setIfInBounds_toArray, List.set_cons_zero, List.set_cons_succ]
        refine wpAnyH_take (i := 1) (v := ?vB1) rfl (by kernel_rfl) (by kernel_rfl) (by kernel_rfl) (fun _ _ _ h => h) (Or.inl ⟨by rfl, ?yB1⟩) hHeld ?rB1
        case yB1 => (intro W hSw; simp only [List.getElem_toArray, List.getElem_cons_succ, List.getElem_cons_zero]; go_simp; try (with_reducible rfl))
        simp only [List.getElem_toArray, List.getElem_cons_succ, List.getElem_cons_zero, Act.put, List.setIfInBounds_toArray, List.set_cons_zero, List.set_cons_succ]
        refine wpAnyH_take (i := 2) (v := ?vB2) rfl (by kernel_rfl) (by kernel_rfl) (by kernel_rfl) (fun _ _ _ h => h) (Or.inl ⟨by rfl, ?yB2⟩) hHeld ?rB2
        case yB2 => (intro W hSw; simp only [List.getElem_toArray, List.getElem_cons_succ, List.getElem_cons_zero]; go_simp; try (with_reducible rfl))
        simp only [List.getElem_toArray, List.getElem_cons_succ, List.getElem_cons_zero, Act.put, List.setIfInBounds_toArray, List.set_cons_zero, List.set_cons_succ]
        refine wpAnyH_take (i := 3) (v := ?vB3) rfl (by kernel_rfl) (by kernel_rfl) (by kernel_rfl) (fun _ _ _ h => h) (Or.inl ⟨by rfl, ?yB3⟩) hHeld ?rB3
        case yB3 => (intro W hSw; simp only [List.getElem_toArray, List.getElem_cons_succ, List.getElem_cons_zero]; go_simp; try (with_reducible rfl))
        simp only [List.getElem_toArray, List.getElem_cons_succ, List.getElem_cons_zero, Act.put, List.setIfInBounds_toArray, List.set_cons_zero, List.set_cons_succ]
        refine wpAnyH_take (i := 4) (v := ?vB4) rfl (by kernel_rfl) (by kernel_rfl) (by kernel_rfl) (fun _ _ _ h => h) (Or.inl ⟨by rfl, ?yB4⟩) hHeld ?rB4
        case yB4 => (intro W hSw; simp only [List.getElem_toArray, List.getElem_cons_succ, List.getElem_cons_zero]; go_simp; try (with_reducible rfl))
        simp only [List.getElem_toArray, List.getElem_cons_succ, List.getElem_cons_zero, Act.put, List.setIfInBounds_toArray, List.set_cons_zero, List.set_cons_succ]
        refine wpAnyH_ready (rs := [5]) (by kernel_rfl) (by simp) (AllReadyH.cons rfl (fun K hK => ?_) AllReadyH.nil)
        simp only [List.getElem_toArray, List.getElem_cons_succ, List.getElem_cons_zero]
        refine wp_store_row _ _ _ rfl w.heap.size #[.int .i64 0, .int .i64 0, .int .i64 0, .int .i64 0, .int .i64 0, .int .i64 0, .int .i64 0, .int .i64 0, .string ⟨#[]⟩, .int .i64 0, .int .u32 0, .int .i64 0, .int .i64 0, .slice none 0 0] rfl rfl _ _ QD.out (by kernel_rfl) rfl (by simp [Value.oneCell']) ?_
        refine hK.out _ _ (⟨(World.cell?_of_block (w := wy.drew) (a := ⟨p, 2, none⟩) (setRow_other _ _ _ _ (fun e => hne e.symm))).trans hHeld.1, _, QD.out.row _, rfl⟩) (fun hHeld1 => ?_)
        clear hK K hHeld
        have hHeld := hHeld1; clear hHeld1
        try simp only [List.getElem_toArray, List.getElem_cons_succ, List.getElem_cons_zero, Act.put, List.setIfInBounds_toArray, List.set_cons_zero, List.set_cons_succ]
        refine wpAnyH_take (i := 6) (v := ?vB6) rfl (by kernel_rfl) (by kernel_rfl) (by kernel_rfl) (fun _ _ _ h => h) (Or.inl ⟨by rfl, ?yB6⟩) hHeld ?rB6
        case yB6 => (intro W hSw; simp only [List.getElem_toArray, List.getElem_cons_succ, List.getElem_cons_zero]; go_simp; try (with_reducible rfl))
        simp only [List.getElem_toArray, List.getElem_cons_succ, List.getElem_cons_zero, Act.put, List.setIfInBounds_toArray, List.set_cons_zero, List.set_cons_succ]
        refine wpAnyH_done (by kernel_rfl) ?_ _
        clear hHeld
        go_wp2_with fail
        refine ret14b Try.results15 rfl rfl (QD.out.row _) rfl ?_
        refine ⟨none, 0, ?_, ?_, ?_⟩
        · rw [HRR.out]
          rfl
        · rw [HRR.out]
          exact atts_none2 _ _ _
        · exact ⟨GY.out.os, GY.out.tape, GY.out.output, by have := GY.out.size; simpa using this, fun k hk => (setRow_other _ _ _ _ (by omega)).trans (GY.out.block k hk (by have := HPS.out; intro e; cases e; omega))⟩
  · have htz : ((E : Int) == 0) = false := by rw [beq_eq_false_iff_ne]; omega
    have htz2 : ((E : Int) != 0) = true := by rw [bne_iff_ne]; omega
    have htz3 : ¬ (E : Int) = 0 := by omega
    have HRR := Lib.hid (show readM l = (E, msg0) by rw [HRD.out, if_neg hE])
    have QY := Qx
    have GY := Gx
    go_wp2_with fail
    have QD := Lib.hid (show Bq wx.drew w.heap.size 31 #[.int .i64 0, .int .i64 0, .int .i64 0, .int .i64 0, .int .i64 0, .int .i64 0, .int .i64 0, .int .i64 0, .string ⟨#[]⟩, .int .i64 0, .int .u32 0, .int .i64 0, .int .i64 0, .slice none 0 0] from QY.out)
    have HS0 := Lib.hid (show (fun W => W.cell? ⟨p, 2, none⟩ = some (.int .i64 (E : Nat)) ∧ ∃ cs, Bq W w.heap.size 31 cs ∧ cs.size = 14) wx.drew from ⟨b2, _, QY.out, rfl⟩)
    refine wp_region_held_drew (S := (fun W => W.cell? ⟨p, 2, none⟩ = some (.int .i64 (E : Nat)) ∧ ∃ cs, Bq W w.heap.size 31 cs ∧ cs.size = 14)) (by kernel_rfl) HS0.out (fun hHeld => ?_)
    clear b0 b1 b2 bf
    refine wpAnyH_take (i := 0) (v := ?vC0) rfl (by kernel_rfl) (by kernel_rfl) (by kernel_rfl) (fun _ _ _ h => h) (Or.inl ⟨by rfl, ?yC0⟩) hHeld ?rC0
    case yC0 => (intro W hSw; simp only [List.getElem_toArray, List.getElem_cons_succ, List.getElem_cons_zero]; go_simp; try (with_reducible rfl))
    simp only [List.getElem_toArray, List.getElem_cons_succ, List.getElem_cons_zero, Act.put, List.setIfInBounds_toArray, List.set_cons_zero, List.set_cons_succ]
    refine wpAnyH_take (i := 1) (v := ?vC1) rfl (by kernel_rfl) (by kernel_rfl) (by kernel_rfl) (fun _ _ _ h => h) (Or.inl ⟨by rfl, ?yC1⟩) hHeld ?rC1
    case yC1 => (intro W hSw; simp only [List.getElem_toArray, List.getElem_cons_succ, List.getElem_cons_zero]; go_simp; try (with_reducible rfl))
    simp only [List.getElem_toArray, List.getElem_cons_succ, List.getElem_cons_zero, Act.put, List.setIfInBounds_toArray, List.set_cons_zero, List.set_cons_succ]
    refine wpAnyH_take (i := 2) (v := ?vC2) rfl (by kernel_rfl) (by kernel_rfl) (by kernel_rfl) (fun _ _ _ h => h) (Or.inl ⟨by rfl, ?yC2⟩) hHeld ?rC2
    case yC2 => (intro W hSw; simp only [List.getElem_toArray, List.getElem_cons_succ, List.getElem_cons_zero]; go_simp; try (with_reducible rfl))
    simp only [List.getElem_toArray, List.getElem_cons_succ, List.getElem_cons_zero, Act.put, List.setIfInBounds_toArray, List.set_cons_zero, List.set_cons_succ]
    refine wpAnyH_take (i := 3) (v := ?vC3) rfl (by kernel_rfl) (by kernel_rfl) (by kernel_rfl) (fun _ _ _ h => h) (Or.inl ⟨by rfl, ?yC3⟩) hHeld ?rC3
    case yC3 => (intro W hSw; simp only [List.getElem_toArray, List.getElem_cons_succ, List.getElem_cons_zero]; go_simp; try (with_reducible rfl))
    simp only [List.getElem_toArray, List.getElem_cons_succ, List.getElem_cons_zero, Act.put, List.setIfInBounds_toArray, List.set_cons_zero, List.set_cons_succ]
    refine wpAnyH_take (i := 4) (v := ?vC4) rfl (by kernel_rfl) (by kernel_rfl) (by kernel_rfl) (fun _ _ _ h => h) (Or.inl ⟨by rfl, ?yC4⟩) hHeld ?rC4
    case yC4 => (intro W hSw; simp only [List.getElem_toArray, List.getElem_cons_succ, List.getElem_cons_zero]; go_simp; try (with_reducible rfl))
    simp only [List.getElem_toArray, List.getElem_cons_succ, List.getElem_cons_zero, Act.put, List.setIfInBounds_toArray, List.set_cons_zero, List.set_cons_succ]
    refine wpAnyH_ready (rs := [5]) (by kernel_rfl) (by simp) (AllReadyH.cons rfl (fun K hK => ?_) AllReadyH.nil)
    simp only [List.getElem_toArray, List.getElem_cons_succ, List.getElem_cons_zero]
    refine wp_store_row _ _ _ rfl w.heap.size #[.int .i64 0, .int .i64 0, .int .i64 0, .int .i64 0, .int .i64 0, .int .i64 0, .int .i64 0, .int .i64 0, .string ⟨#[]⟩, .int .i64 0, .int .u32 0, .int .i64 0, .int .i64 0, .slice none 0 0] rfl rfl _ _ QD.out (by kernel_rfl) rfl (by simp [Value.oneCell']) ?_
    refine hK.out _ _ (⟨(World.cell?_of_block (w := wx.drew) (a := ⟨p, 2, none⟩) (setRow_other _ _ _ _ (fun e => hne e.symm))).trans hHeld.1, _, QD.out.row _, rfl⟩) (fun hHeld1 => ?_)
    clear hK K hHeld
    have hHeld := hHeld1; clear hHeld1
    try simp only [List.getElem_toArray, List.getElem_cons_succ, List.getElem_cons_zero, Act.put, List.setIfInBounds_toArray, List.set_cons_zero, List.set_cons_succ]
    refine wpAnyH_take (i := 6) (v := ?vC6) rfl (by kernel_rfl) (by kernel_rfl) (by kernel_rfl) (fun _ _ _ h => h) (Or.inl ⟨by rfl, ?yC6⟩) hHeld ?rC6
    case yC6 => (intro W hSw; simp only [List.getElem_toArray, List.getElem_cons_succ, List.getElem_cons_zero]; go_simp; try (with_reducible rfl))
    simp only [List.getElem_toArray, List.getElem_cons_succ, List.getElem_cons_zero, Act.put, List.setIfInBounds_toArray, List.set_cons_zero, List.set_cons_succ]
    refine wpAnyH_done (by kernel_rfl) ?_ _
    clear hHeld
    go_wp2_with fail
    refine ret14b Try.results15 rfl rfl (QD.out.row _) rfl ?_
    refine ⟨none, 0, ?_, ?_, ?_⟩
    · rw [HRR.out]
      rfl
    · rw [HRR.out]
      exact atts_none2 _ _ _
    · exact ⟨GY.out.os, GY.out.tape, GY.out.output, by have := GY.out.size; simpa using this, fun k hk => (setRow_other _ _ _ _ (by omega)).trans (GY.out.block k hk (by have := HPS.out; intro e; cases e; omega))⟩
end Go.Proofs.Ytndgbdbjmogioaa.Wi
