/-
  Contract of event of the document's reader for layer 10. All else is left as it was.
-/
import Derived.Test.YtndgbdbjmogioaaWiRfT
import Derived.Test.YtndgbdbjmogioaaWiRdE
import Derived.Deep.Cut
import Derived.Deep.CutRange
namespace Go.Proofs.Ytndgbdbjmogioaa.Wi
open Go.RowKit Go.Proofs.Ytndgbdbjmogioaa.Fl
set_option linter.unusedVariables false
set_option linter.unusedSimpArgs false

/-- What the document's reader of an event tells. -/
def EvF (p z : Nat) (L : List UInt8) (ev : Ev) (s : St) (w w' : World) (e : Ending) : Prop :=
  ∃ a c, e = .returned (.agg #[.int .i64 ev.pub, .int .u32 (ev.seq : Nat), .int .i64 ev.x, .int .i64 ev.y, .slice a ev.attrs.length c]) ∧ RfW w' p z L s ∧ w.grownBy w' (some p) ∧ AttsAt w' (fun g => w.heap.size ≤ g ∧ g < w'.heap.size) a ev.attrs
/-- So far these attributes were read. -/
def EvRR (p z : Nat) (L : List UInt8) (q0 q1 n : Nat) (w : World) (s : St) (pub : Int) (seq : Nat) (x y : Int) (vi : Value) (wr : World) : Prop :=
  ∃ (k : Nat) (l : List Att) (t : St) (a : Option Addr) (m c : Nat), vi = .int .i64 (k : Nat) ∧ k ≤ n ∧ Hid (l.length = k ∧ attsR n s = (l ++ (attsR (n - k) t).1, (attsR (n - k) t).2) ∧ ∀ v ∈ l, attOk v) ∧ RfW wr p z L t ∧ w.grownBy wr (some p) ∧
    Bq wr q0 29 #[.int .i64 0, .int .u32 0, .int .i64 0, .int .i64 0, .slice none 0 0] ∧ Bq wr q1 29 #[.int .i64 pub, .int .u32 (seq : Nat), .int .i64 x, .int .i64 y, .slice a m c] ∧ OA wr (q1 + 1) (.slice a m c) l
theorem Bq.gro {W V : World} {q : Nat} {t : TypeId} {cs : Array Value} {r : Option Nat} (h : Bq W q t cs) (hg : W.grownBy V r) (hr : ∀ k, r = some k → k ≠ q) : Bq V q t cs := (hg.block q h.lt (fun e => hr q e.symm rfl)).trans h
theorem gr_own {w V X : World} {r r' : Option Nat} (h : w.grownBy V r) (hg : V.grownBy X r') (hr : ∀ k, r' = some k → w.heap.size ≤ k) : w.grownBy X r :=
  ⟨hg.os.trans h.os, hg.tape.trans h.tape, hg.output.trans h.output, Nat.le_trans h.size hg.size, fun k hk hne => (hg.block k (Nat.lt_of_lt_of_le hk h.size) (fun e => by have := hr k e.symm; omega)).trans (h.block k hk hne)⟩
theorem RfW.gro {W V : World} {p z : Nat} {L : List UInt8} {s : St} {r : Option Nat} (h : RfW W p z L s) (hg : W.grownBy V r) (hr : ∀ k, r = some k → p < k) : RfW V p z L s :=
  h.keep (hg.block p h.lt (fun e => by have := hr p e.symm; omega)) fun g hg' => hg.block g (by have := h.lt; have := h.zp; omega) (fun e => by have := hr g e.symm; have := h.zp; omega)
theorem attsR_step {n : Nat} {s : St} (h : s.1 = 0) : attsR (n + 1) s = ((attS s).1 :: (attsR n (attS s).2).1, (attsR n (attS s).2).2) := by rw [attsR, if_pos h]; rfl
theorem attsR_bad {n : Nat} {s : St} (h : s.1 ≠ 0) : attsR n s = ([], s) := by
  cases n with
  | zero => rfl
  | succ n => rw [attsR, if_neg h]
theorem one_att (x0 : ByteArray) (x1 : Bool) (x2 : Int) (x3 : ByteArray) : ∀ u ∈ [Value.string x0, .bool x1, .int .i64 x2, .string x3], u.oneCell' = true := by
  intro u hu
  simp at hu
  rcases hu with rfl | rfl | rfl | rfl <;> rfl
set_option maxHeartbeats 4000000
set_option maxRecDepth 100000
theorem event_rf (p z : Nat) (L : List UInt8) (s : St) (w : World) (hR : RfW w p z L s) :
    Calls Try.prog 37 #[.pointer (some ⟨p, 0, none⟩)] w fun e w' => EvF p z L (evS' attsR s).1 (evS' attsR s).2 w w' e := by
  obtain ⟨i0, hi, hz0, hz1, hz2⟩ := info_parts infoA
  have HLT := Lib.hid hR.lt
  have HZP := Lib.hid hR.zp
  obtain ⟨pub, s1, h1⟩ : ∃ v t, numS 2147483647 s = (v, t) := ⟨_, _, rfl⟩
  obtain ⟨seq, s2, h2⟩ : ∃ v t, numS 4294967295 s1 = (v, t) := ⟨_, _, rfl⟩
  obtain ⟨x, s3, h3⟩ : ∃ v t, signS s2 = (v, t) := ⟨_, _, rfl⟩
  obtain ⟨y, s4, h4⟩ : ∃ v t, signS s3 = (v, t) := ⟨_, _, rfl⟩
  obtain ⟨n, s5, h5⟩ : ∃ v t, numS 16 s4 = (v, t) := ⟨_, _, rfl⟩
  have hn16 := numS_le 16 s4
  rw [h5] at hn16
  simp only at hn16
  have hseq := numS_le 4294967295 s1
  rw [h2] at hseq
  simp only at hseq
  have HRES := Lib.hid (show evS' attsR s = (⟨(pub : Int), seq, x, y, (attsR n s5).1⟩, (attsR n s5).2) by
    unfold evS' fewS mapS thenS
    simp only [h1, h2, h3, h4, h5])
  obtain ⟨w1, hw1⟩ : ∃ W0 : World, W0 = (w.alloc (.cells #[.int .i64 0, .int .u32 0, .int .i64 0, .int .i64 0, .slice none 0 0] 29)).alloc (.cells #[.int .i64 0, .int .u32 0, .int .i64 0, .int .i64 0, .slice none 0 0] 29) := ⟨_, rfl⟩
  have HW1 := Lib.hid hw1
  have hsz : (w.alloc (.cells #[.int .i64 0, .int .u32 0, .int .i64 0, .int .i64 0, .slice none 0 0] 29)).heap.size = w.heap.size + 1 := by simp
  have G1 := Lib.hid (show w.grownBy w1 (some p) by rw [hw1]; exact gr_al (World.grownBy_alloc _ _ _) _)
  have Q1 := Lib.hid (show Bq w1 w.heap.size 29 #[.int .i64 0, .int .u32 0, .int .i64 0, .int .i64 0, .slice none 0 0] by rw [hw1]; exact (Bq.new _ _ _).alloc _)
  have P1 := Lib.hid (show Bq w1 (w.heap.size + 1) 29 #[.int .i64 0, .int .u32 0, .int .i64 0, .int .i64 0, .slice none 0 0] by rw [hw1, ← hsz]; exact Bq.new _ _ _)
  have R1 := Lib.hid (show RfW w1 p z L s by rw [hw1]; exact (hR.alloc _).alloc _)
  have C := few_rf p z L s w1 R1.out
  rw [h1] at C
  have HC0 := Lib.hid C
  have H2 := Lib.hid h2
  have H3 := Lib.hid h3
  have H4 := Lib.hid h4
  have H5 := Lib.hid h5
  have HN16 := Lib.hid hn16
  have HU := Lib.hid (wrap32 hseq)
  have hne : ¬ w.heap.size = p := by have := HLT.out; omega
  have hne2 : ¬ w.heap.size + 1 = p := by have := HLT.out; omega
  clear hw1 hR h1 h2 h3 h4 h5 C hsz hn16 hseq
  go_enter Try.func37, Try.ntmps37
  go_wp2_with fail
  rw [← HW1.out]
  refine Calls.mono HC0.out ?_
  rintro e1 w2 ⟨rfl, hr2, hg2⟩
  obtain ⟨w3, hw3⟩ : ∃ W0 : World, W0 = w2.setCell ⟨w.heap.size + 1, 0, none⟩ (.int .i64 (pub : Nat)) := ⟨_, rfl⟩
  have HW3 := Lib.hid hw3
  have P2 := Lib.hid (P1.out.gr hg2 hne2)
  have G3 := Lib.hid (show w.grownBy w3 (some p) by rw [hw3]; exact gr_new (G1.out.trans hg2) (by omega) _ _)
  have Q3 := Lib.hid (show Bq w3 w.heap.size 29 #[.int .i64 0, .int .u32 0, .int .i64 0, .int .i64 0, .slice none 0 0] by rw [hw3]; exact (Q1.out.gr hg2 hne).setO (by omega) _ _)
  have P3 := Lib.hid (show Bq w3 (w.heap.size + 1) 29 #[.int .i64 (pub : Nat), .int .u32 0, .int .i64 0, .int .i64 0, .slice none 0 0] by rw [hw3]; exact P2.out.set 0 _)
  have R3 := Lib.hid (show RfW w3 p z L s1 by rw [hw3]; exact hr2.set hne2 (by have := HZP.out; have := HLT.out; omega) _ _)
  have C := number_rf p z 4294967295 (by unfold mx; omega) L s1 w3 R3.out
  rw [H2.out] at C
  have HC1 := Lib.hid C
  clear hw3 hr2 hg2 C
  obtain ⟨c0, c1, c2, c3, c4⟩ := P2.out.c5
  have hf := P2.out.fr
  skip
  go_wp2_with fail
  skip
  rw [← HW3.out]
  clear c0 c1 c2 c3 c4 hf
  refine Calls.mono HC1.out ?_
  rintro e1 w4 ⟨rfl, hr4, hg4⟩
  obtain ⟨w5, hw5⟩ : ∃ W0 : World, W0 = w4.setCell ⟨w.heap.size + 1, 1, none⟩ (.int .u32 (seq : Nat)) := ⟨_, rfl⟩
  have HW5 := Lib.hid hw5
  have P4 := Lib.hid (P3.out.gr hg4 hne2)
  have G5 := Lib.hid (show w.grownBy w5 (some p) by rw [hw5]; exact gr_new (G3.out.trans hg4) (by omega) _ _)
  have Q5 := Lib.hid (show Bq w5 w.heap.size 29 #[.int .i64 0, .int .u32 0, .int .i64 0, .int .i64 0, .slice none 0 0] by rw [hw5]; exact (Q3.out.gr hg4 hne).setO (by omega) _ _)
  have P5 := Lib.hid (show Bq w5 (w.heap.size + 1) 29 #[.int .i64 (pub : Nat), .int .u32 (seq : Nat), .int .i64 0, .int .i64 0, .slice none 0 0] by rw [hw5]; exact P4.out.set 1 _)
  have R5 := Lib.hid (show RfW w5 p z L s2 by rw [hw5]; exact hr4.set hne2 (by have := HZP.out; have := HLT.out; omega) _ _)
  have C := sign_rf p z L s2 w5 R5.out
  rw [H3.out] at C
  have HC2 := Lib.hid C
  clear hw5 hr4 hg4 C
  obtain ⟨c0, c1, c2, c3, c4⟩ := P4.out.c5
  have hf := P4.out.fr
  have hu := HU.out
  go_wp2_with fail
  clear hu
  rw [← HW5.out]
  clear c0 c1 c2 c3 c4 hf
  refine Calls.mono HC2.out ?_
  rintro e1 w6 ⟨rfl, hr6, hg6⟩
  obtain ⟨w7, hw7⟩ : ∃ W0 : World, W0 = w6.setCell ⟨w.heap.size + 1, 2, none⟩ (.int .i64 x) := ⟨_, rfl⟩
  have HW7 := Lib.hid hw7
  have P6 := Lib.hid (P5.out.gr hg6 hne2)
  have G7 := Lib.hid (show w.grownBy w7 (some p) by rw [hw7]; exact gr_new (G5.out.trans hg6) (by omega) _ _)
  have Q7 := Lib.hid (show Bq w7 w.heap.size 29 #[.int .i64 0, .int .u32 0, .int .i64 0, .int .i64 0, .slice none 0 0] by rw [hw7]; exact (Q5.out.gr hg6 hne).setO (by omega) _ _)
  have P7 := Lib.hid (show Bq w7 (w.heap.size + 1) 29 #[.int .i64 (pub : Nat), .int .u32 (seq : Nat), .int .i64 x, .int .i64 0, .slice none 0 0] by rw [hw7]; exact P6.out.set 2 _)
  have R7 := Lib.hid (show RfW w7 p z L s3 by rw [hw7]; exact hr6.set hne2 (by have := HZP.out; have := HLT.out; omega) _ _)
  have C := sign_rf p z L s3 w7 R7.out
  rw [H4.out] at C
  have HC3 := Lib.hid C
  clear hw7 hr6 hg6 C
  obtain ⟨c0, c1, c2, c3, c4⟩ := P6.out.c5
  have hf := P6.out.fr
  skip
  go_wp2_with fail
  skip
  rw [← HW7.out]
  clear c0 c1 c2 c3 c4 hf
  refine Calls.mono HC3.out ?_
  rintro e1 w8 ⟨rfl, hr8, hg8⟩
  obtain ⟨w9, hw9⟩ : ∃ W0 : World, W0 = w8.setCell ⟨w.heap.size + 1, 3, none⟩ (.int .i64 y) := ⟨_, rfl⟩
  have HW9 := Lib.hid hw9
  have P8 := Lib.hid (P7.out.gr hg8 hne2)
  have G9 := Lib.hid (show w.grownBy w9 (some p) by rw [hw9]; exact gr_new (G7.out.trans hg8) (by omega) _ _)
  have Q9 := Lib.hid (show Bq w9 w.heap.size 29 #[.int .i64 0, .int .u32 0, .int .i64 0, .int .i64 0, .slice none 0 0] by rw [hw9]; exact (Q7.out.gr hg8 hne).setO (by omega) _ _)
  have P9 := Lib.hid (show Bq w9 (w.heap.size + 1) 29 #[.int .i64 (pub : Nat), .int .u32 (seq : Nat), .int .i64 x, .int .i64 y, .slice none 0 0] by rw [hw9]; exact P8.out.set 3 _)
  have R9 := Lib.hid (show RfW w9 p z L s4 by rw [hw9]; exact hr8.set hne2 (by have := HZP.out; have := HLT.out; omega) _ _)
  have C := number_rf p z 16 (by unfold mx; omega) L s4 w9 R9.out
  rw [H5.out] at C
  have HC4 := Lib.hid C
  clear hw9 hr8 hg8 C
  obtain ⟨c0, c1, c2, c3, c4⟩ := P8.out.c5
  have hf := P8.out.fr
  skip
  go_wp2_with fail
  skip
  rw [← HW9.out]
  clear c0 c1 c2 c3 c4 hf
  refine Calls.mono HC4.out ?_
  rintro e1 w10 ⟨rfl, hr10, hg10⟩
  have P10 := Lib.hid (P9.out.gr hg10 hne2)
  have Q10 := Lib.hid (Q9.out.gr hg10 hne)
  have G10 := Lib.hid (G9.out.trans hg10)
  have R10 := Lib.hid hr10
  clear hr10 hg10
  have hn16 : (n : Int) ≤ 16 := by have := HN16.out; omega
  go_wp2_with fail
  clear hn16
  go_loopw [5] (fun vi wr => EvRR p z L w.heap.size (w.heap.size + 1) n w s5 (pub : Nat) seq x y vi wr) (fun vi _ => n - (intOf vi).toNat)
  case atStart => exact ⟨0, [], s5, none, 0, 0, rfl, Nat.zero_le _, Lib.hid ⟨rfl, rfl, by simp⟩, R10.out, G10.out, Q10.out, P10.out, OA.nil _ _⟩
  case round =>
    obtain ⟨k, l, ⟨te, tl⟩, a, m, c, rfl, hk, hl, hR, hG, hQ, hP, hO⟩ := hrel
    have HK := Lib.hid hk
    have Rr := Lib.hid hR
    have Gr := Lib.hid hG
    have Qr := Lib.hid hQ
    have Pr := Lib.hid hP
    have Or := Lib.hid hO
    have HML := Lib.hid (show m = l.length from (hO.atts hl.out.2.2 (by have := hl.out.1; have := HN16.out; unfold maxLen; omega)).1)
    obtain ⟨ra, rc, rk, hrb, -⟩ := hR
    obtain ⟨r0, r1, r2⟩ := hrb.c3
    clear hk hG hQ hP hO hrb
    by_cases hlt : k < n
    · have hlz : (k : Int) < (n : Int) := by omega
      have hkz : (k : Int) ≤ 16 := by have := HN16.out; omega
      by_cases h0 : te = 0
      · subst h0
        obtain ⟨nm, t2, h2⟩ : ∃ v t, textS 200 (0, tl) = (v, t) := ⟨_, _, rfl⟩
        obtain ⟨kk, t3, h3⟩ : ∃ v t, numS 1 t2 = (v, t) := ⟨_, _, rfl⟩
        have hk1 := numS_le 1 t2
        rw [h3] at hk1
        simp only at hk1
        have H2 := Lib.hid h2
        have H3 := Lib.hid h3
        obtain ⟨sn, e0, hsn⟩ := bs_of2 nm
        have HSN := Lib.hid (show sn = ⟨nm.toArray⟩ by injection e0 with e; exact e.symm)
        obtain ⟨wa, hwa⟩ : ∃ W0 : World, W0 = wr.alloc (.cells #[.string ⟨#[]⟩, .bool false, .int .i64 0, .string ⟨#[]⟩] 50) := ⟨_, rfl⟩
        have HQ2 := Lib.hid (show w.heap.size + 1 < wr.heap.size ∧ w.heap.size ≤ wr.heap.size ∧ p < wr.heap.size ∧ z ≤ wr.heap.size by have := Pr.out.lt; have := HLT.out; have := HZP.out; omega)
        have hne3 : ¬ wr.heap.size = p := by have := HQ2.out.2.2.1; omega
        have HOQ := Lib.hid (show ∀ g, (Value.slice a m c).ownBlock = some g → g < wr.heap.size from fun g e => (Or.out.lt e).2)
        have HWA := Lib.hid hwa
        have GA := Lib.hid (show w.grownBy wa (some p) by rw [hwa]; exact gr_al Gr.out _)
        have QA := Lib.hid (show Bq wa w.heap.size 29 #[.int .i64 0, .int .u32 0, .int .i64 0, .int .i64 0, .slice none 0 0] by rw [hwa]; exact Qr.out.alloc _)
        have PA := Lib.hid (show Bq wa (w.heap.size + 1) 29 #[.int .i64 (pub : Nat), .int .u32 (seq : Nat), .int .i64 x, .int .i64 y, .slice a m c] by rw [hwa]; exact Pr.out.alloc _)
        have OA1 := Lib.hid (show OA wa ((w.heap.size + 1) + 1) (.slice a m c) l by rw [hwa]; exact Or.out.keep fun g e => Below.heap_alloc _ _ _ (Or.out.lt e).2)
        have OA' := OA1
        have AA := Lib.hid (show Bq wa wr.heap.size 50 #[.string ⟨#[]⟩, .bool false, .int .i64 0, .string ⟨#[]⟩] by rw [hwa]; exact Bq.new _ _ _)
        have RA := Lib.hid (show RfW wa p z L (0, tl) by rw [hwa]; exact Rr.out.alloc _)
        have C := text_rf p z 200 (by omega) L (0, tl) wa RA.out
        rw [h2] at C
        simp only [e0] at C
        have HC := Lib.hid C
        clear hwa C h2 h3 e0 hsn
        go_wp2_with fail
        rw [← HWA.out]
        clear r0 r1 r2
        refine Calls.mono HC.out ?_
        rintro e1 wB ⟨rfl, hrB, hgB⟩
        have GB := Lib.hid (GA.out.trans hgB)
        have QB := Lib.hid (QA.out.gr hgB hne)
        have PB := Lib.hid (PA.out.gr hgB hne2)
        have OB := Lib.hid (OA1.out.gr hgB (by have := HLT.out; omega))
        have AB := Lib.hid (AA.out.gr hgB hne3)
        have RB := Lib.hid hrB
        clear hrB hgB
        obtain ⟨wC, hwC⟩ : ∃ W0 : World, W0 = wB.setCell ⟨wr.heap.size, 0, none⟩ (.string sn) := ⟨_, rfl⟩
        have HWC := Lib.hid hwC
        have GC := Lib.hid (show w.grownBy wC (some p) by rw [hwC]; exact gr_new GB.out HQ2.out.2.1 _ _)
        have QC := Lib.hid (show Bq wC w.heap.size 29 #[.int .i64 0, .int .u32 0, .int .i64 0, .int .i64 0, .slice none 0 0] by rw [hwC]; exact QB.out.setO (by have := HQ2.out.1; omega) _ _)
        have PC := Lib.hid (show Bq wC (w.heap.size + 1) 29 #[.int .i64 (pub : Nat), .int .u32 (seq : Nat), .int .i64 x, .int .i64 y, .slice a m c] by rw [hwC]; exact PB.out.setO (by have := HQ2.out.1; omega) _ _)
        have OC := Lib.hid (show OA wC ((w.heap.size + 1) + 1) (.slice a m c) l by rw [hwC]; exact OB.out.keep fun g e => Below.heap_setCell _ _ _ _ (by have := HOQ.out g e; show g ≠ wr.heap.size; omega))
        have AC := Lib.hid (show Bq wC wr.heap.size 50 #[.string sn, .bool false, .int .i64 0, .string ⟨#[]⟩] by rw [hwC]; exact AB.out.set 0 _)
        have RC := Lib.hid (show RfW wC p z L t2 by rw [hwC]; exact RB.out.set hne3 HQ2.out.2.2.2 _ _)
        clear hwC
        have C := number_rf p z 1 (by unfold mx; omega) L t2 wC RC.out
        rw [H3.out] at C
        have HC2 := Lib.hid C
        clear C
        obtain ⟨c0, c1, c2, c3⟩ := AB.out.c4
        have hf := AB.out.fr
        go_wp2_with fail
        clear c0 c1 c2 c3 hf
        rw [← HWC.out]
        refine Calls.mono HC2.out ?_
        rintro e1 wD ⟨rfl, hrD, hgD⟩
        have GD := Lib.hid (GC.out.trans hgD)
        have QD := Lib.hid (QC.out.gr hgD hne)
        have PD := Lib.hid (PC.out.gr hgD hne2)
        have OD := Lib.hid (OC.out.gr hgD (by have := HLT.out; omega))
        have AD := Lib.hid (AC.out.gr hgD hne3)
        have RD := Lib.hid hrD
        clear hrD hgD
        have hk01 : kk = 1 ∨ kk = 0 := by omega
        clear hk1
        rcases hk01 with rfl | rfl
        · obtain ⟨wE, hwE⟩ : ∃ W0 : World, W0 = wD.setCell ⟨wr.heap.size, 1, none⟩ (.bool true) := ⟨_, rfl⟩
          have HWE := Lib.hid hwE
          have GE := Lib.hid (show w.grownBy wE (some p) by rw [hwE]; exact gr_new GD.out HQ2.out.2.1 _ _)
          have QE := Lib.hid (show Bq wE w.heap.size 29 #[.int .i64 0, .int .u32 0, .int .i64 0, .int .i64 0, .slice none 0 0] by rw [hwE]; exact QD.out.setO (by have := HQ2.out.1; omega) _ _)
          have PE := Lib.hid (show Bq wE (w.heap.size + 1) 29 #[.int .i64 (pub : Nat), .int .u32 (seq : Nat), .int .i64 x, .int .i64 y, .slice a m c] by rw [hwE]; exact PD.out.setO (by have := HQ2.out.1; omega) _ _)
          have OE := Lib.hid (show OA wE ((w.heap.size + 1) + 1) (.slice a m c) l by rw [hwE]; exact OD.out.keep fun g e => Below.heap_setCell _ _ _ _ (by have := HOQ.out g e; show g ≠ wr.heap.size; omega))
          have AE := Lib.hid (show Bq wE wr.heap.size 50 #[.string sn, .bool true, .int .i64 0, .string ⟨#[]⟩] by rw [hwE]; exact AD.out.set 1 _)
          have RE := Lib.hid (show RfW wE p z L t3 by rw [hwE]; exact RD.out.set hne3 HQ2.out.2.2.2 _ _)
          clear hwE
          obtain ⟨st, t4, h4⟩ : ∃ v t, textS 200 t3 = (v, t) := ⟨_, _, rfl⟩
          obtain ⟨ss, e3, hss⟩ := bs_of2 st
          have HSS := Lib.hid (show ss = ⟨st.toArray⟩ by injection e3 with e; exact e.symm)
          have C := text_rf p z 200 (by omega) L t3 wE RE.out
          rw [h4] at C
          simp only [e3] at C
          have HC3 := Lib.hid C
          have HAT := Lib.hid (show attS (0, tl) = (⟨nm, true, 0, st⟩, t4) by
            unfold attS mapS thenS
            rw [H2.out]
            simp only
            rw [H3.out]
            simp only [valS, if_true, mapS, h4])
          clear C h4 e3 hss
          obtain ⟨c0, c1, c2, c3⟩ := AD.out.c4
          have hf := AD.out.fr
          go_wp2_with fail
          clear c0 c1 c2 c3 hf
          rw [← HWE.out]
          refine Calls.mono HC3.out ?_
          rintro e1 wF ⟨rfl, hrF, hgF⟩
          have GF := Lib.hid (GE.out.trans hgF)
          have QF := Lib.hid (QE.out.gr hgF hne)
          have PF := Lib.hid (PE.out.gr hgF hne2)
          have OF := Lib.hid (OE.out.gr hgF (by have := HLT.out; omega))
          have AF := Lib.hid (AE.out.gr hgF hne3)
          have RF := Lib.hid hrF
          clear hrF hgF
          obtain ⟨wG1, hwG1⟩ : ∃ W0 : World, W0 = wF.setCell ⟨wr.heap.size, 3, none⟩ (.string ss) := ⟨_, rfl⟩
          have HWG1 := Lib.hid hwG1
          have GG1 := Lib.hid (show w.grownBy wG1 (some p) by rw [hwG1]; exact gr_new GF.out HQ2.out.2.1 _ _)
          have QG1 := Lib.hid (show Bq wG1 w.heap.size 29 #[.int .i64 0, .int .u32 0, .int .i64 0, .int .i64 0, .slice none 0 0] by rw [hwG1]; exact QF.out.setO (by have := HQ2.out.1; omega) _ _)
          have PG1 := Lib.hid (show Bq wG1 (w.heap.size + 1) 29 #[.int .i64 (pub : Nat), .int .u32 (seq : Nat), .int .i64 x, .int .i64 y, .slice a m c] by rw [hwG1]; exact PF.out.setO (by have := HQ2.out.1; omega) _ _)
          have OG1 := Lib.hid (show OA wG1 ((w.heap.size + 1) + 1) (.slice a m c) l by rw [hwG1]; exact OF.out.keep fun g e => Below.heap_setCell _ _ _ _ (by have := HOQ.out g e; show g ≠ wr.heap.size; omega))
          have AG1 := Lib.hid (show Bq wG1 wr.heap.size 50 #[.string sn, .bool true, .int .i64 0, .string ss] by rw [hwG1]; exact AF.out.set 3 _)
          have RG1 := Lib.hid (show RfW wG1 p z L t4 by rw [hwG1]; exact RF.out.set hne3 HQ2.out.2.2.2 _ _)
          clear hwG1
          obtain ⟨c0, c1, c2, c3⟩ := AF.out.c4
          have hf := AF.out.fr
          go_upto_region 16 with fail
          clear c0 c1 c2 c3 hf
          rw [← HWG1.out]
          obtain ⟨c0, c1, c2, c3⟩ := AG1.out.c4
          obtain ⟨d0, d1, d2, d3, d4⟩ := PG1.out.c5
          obtain ⟨wh, hwh⟩ : ∃ W0 : World, W0 = wG1.alloc (.cells #[.string sn, .bool true, .int .i64 0, .string ss] 50) := ⟨_, rfl⟩
          have HWH := Lib.hid hwh
          have GH := Lib.hid (show w.grownBy wh (some p) by rw [hwh]; exact gr_al GG1.out _)
          have QH := Lib.hid (show Bq wh w.heap.size 29 #[.int .i64 0, .int .u32 0, .int .i64 0, .int .i64 0, .slice none 0 0] by rw [hwh]; exact QG1.out.alloc _)
          have PH := Lib.hid (show Bq wh (w.heap.size + 1) 29 #[.int .i64 (pub : Nat), .int .u32 (seq : Nat), .int .i64 x, .int .i64 y, .slice a m c] by rw [hwh]; exact PG1.out.alloc _)
          have OH := Lib.hid (show OA wh ((w.heap.size + 1) + 1) (.slice a m c) l by rw [hwh]; exact OG1.out.keep fun g e => Below.heap_alloc _ _ _ (OG1.out.lt e).2)
          have RH := Lib.hid (show RfW wh p z L t4 by rw [hwh]; exact RG1.out.alloc _)
          have NH := Lib.hid (show ∀ j u, [Value.string sn, .bool true, .int .i64 0, .string ss][j]? = some u → wh.cell? ((⟨wG1.heap.size, 0, none⟩ : Addr).add j) = some u by rw [hwh]; exact new_att wG1 _ _ _ _ _)
          have HZH := Lib.hid (show (w.heap.size + 1) + 1 ≤ wh.heap.size by have := PH.out.lt; omega)
          clear hwh
          go_wp2_with (at_builtin; rw [← HWH.out]; refine wpList_append_own_at _ rfl _ _ 27 rfl ((w.heap.size + 1) + 1) 50 i0 (.agg #[.string ⟨#[]⟩, .bool false, .int .i64 0, .string ⟨#[]⟩]) 4 48 Try.underlying27 hi hz0 hz1 hz2 rfl (by decide) _ _ _ rfl OH.out ⟨wG1.heap.size, 0, none⟩ 1 1 [.string sn, .bool true, .int .i64 0, .string ss] rfl rfl NH.out (one_att _ _ _ _) (by have := hl.out.1; have := HN16.out; unfold maxLen; omega) (by have := hl.out.1; have := HN16.out; omega) HZH.out ?_; intro v' wi hrow hgi hni hati; obtain ⟨a', m', c', e'⟩ := own_slice hrow; subst e'; clear c0 c1 c2 c3 d0 d1 d2 d3 d4; have PI := Lib.hid (PH.out.gro hgi (fun k hk => by have := (OH.out.lt hk).1; omega)); obtain ⟨d0, d1, d2, d3, d4⟩ := PI.out.c5; have df := PI.out.fr)
          clear d0 d1 d2 d3 d4 df
          have GI := Lib.hid (gr_own GH.out hgi (fun k hk => by have := (OH.out.lt hk).1; omega))
          have QI := Lib.hid (QH.out.gro hgi (fun k hk => by have := (OH.out.lt hk).1; omega))
          have RI := Lib.hid (RH.out.gro hgi (fun k hk => by have := (OH.out.lt hk).1; have := HLT.out; omega))
          have OI := Lib.hid (show OA wi ((w.heap.size + 1) + 1) (.slice a' m' c') (l ++ [(⟨nm, true, 0, st⟩ : Att)]) by
            unfold OA
            rw [List.length_append, attCs_app, show attCs [(⟨nm, true, 0, st⟩ : Att)] = [.string sn, .bool true, .int .i64 0, .string ss] by simp [attCs, attC, bs, HSN.out, HSS.out]]
            exact hrow)
          clear hrow hgi hni hati
          obtain ⟨wj, hwj⟩ : ∃ W0 : World, W0 = wi.setCell ⟨(w.heap.size + 1), 4, none⟩ (.slice a' m' c') := ⟨_, rfl⟩
          have GJ := Lib.hid (show w.grownBy wj (some p) by rw [hwj]; exact gr_new GI.out (by omega) _ _)
          have QJ := Lib.hid (show Bq wj w.heap.size 29 #[.int .i64 0, .int .u32 0, .int .i64 0, .int .i64 0, .slice none 0 0] by rw [hwj]; exact QI.out.setO (by omega) _ _)
          have PJ := Lib.hid (show Bq wj (w.heap.size + 1) 29 #[.int .i64 (pub : Nat), .int .u32 (seq : Nat), .int .i64 x, .int .i64 y, (.slice a' m' c')] by rw [hwj]; exact PI.out.set 4 _)
          have RJ := Lib.hid (show RfW wj p z L t4 by rw [hwj]; exact RI.out.set hne2 (by have := HZP.out; have := HLT.out; omega) _ _)
          have OJ := Lib.hid (show OA wj ((w.heap.size + 1) + 1) (.slice a' m' c') (l ++ [(⟨nm, true, 0, st⟩ : Att)]) by rw [hwj]; exact OI.out.keep fun g e => Below.heap_setCell _ _ _ _ (by have := (OI.out.lt e).1; show g ≠ w.heap.size + 1; omega))
          rw [← hwj]
          clear hwj
          have HL2 := Lib.hid (show (l ++ [(⟨nm, true, 0, st⟩ : Att)]).length = k + 1 ∧ attsR n s5 = ((l ++ [(⟨nm, true, 0, st⟩ : Att)]) ++ (attsR (n - (k + 1)) t4).1, (attsR (n - (k + 1)) t4).2) ∧ ∀ v ∈ l ++ [(⟨nm, true, 0, st⟩ : Att)], attOk v by
            refine ⟨by rw [List.length_append, hl.out.1]; rfl, ?_, ?_⟩
            · rw [hl.out.2.1, show n - k = (n - (k + 1)) + 1 by omega, attsR_step rfl, HAT.out]
              simp
            · intro v hv
              rcases List.mem_append.1 hv with h | h
              · exact hl.out.2.2 v h
              · rw [List.mem_singleton.1 h]; have := attS_ok (0, tl); rw [HAT.out] at this; exact this)
          go_roundw
          case rel => exact ⟨k + 1, l ++ [(⟨nm, true, 0, st⟩ : Att)], t4, a', m', c', by go_num, by omega, HL2, RJ.out, GJ.out, QJ.out, PJ.out, OJ.out⟩
          case measure => simp [intOf]; omega
        · obtain ⟨nu, t4, h4⟩ : ∃ v t, signS t3 = (v, t) := ⟨_, _, rfl⟩
          have C := sign_rf p z L t3 wD RD.out
          rw [h4] at C
          have HC3 := Lib.hid C
          have HAT := Lib.hid (show attS (0, tl) = (⟨nm, false, nu, []⟩, t4) by
            unfold attS mapS thenS
            rw [H2.out]
            simp only
            rw [H3.out]
            simp only [valS, Nat.zero_ne_one, if_false, mapS, h4])
          clear C h4
          go_wp2_with fail
          refine Calls.mono HC3.out ?_
          rintro e1 wF ⟨rfl, hrF, hgF⟩
          have GF := Lib.hid (GD.out.trans hgF)
          have QF := Lib.hid (QD.out.gr hgF hne)
          have PF := Lib.hid (PD.out.gr hgF hne2)
          have OF := Lib.hid (OD.out.gr hgF (by have := HLT.out; omega))
          have AF := Lib.hid (AD.out.gr hgF hne3)
          have RF := Lib.hid hrF
          clear hrF hgF
          obtain ⟨wG0, hwG0⟩ : ∃ W0 : World, W0 = wF.setCell ⟨wr.heap.size, 2, none⟩ (.int .i64 nu) := ⟨_, rfl⟩
          have HWG0 := Lib.hid hwG0
          have GG0 := Lib.hid (show w.grownBy wG0 (some p) by rw [hwG0]; exact gr_new GF.out HQ2.out.2.1 _ _)
          have QG0 := Lib.hid (show Bq wG0 w.heap.size 29 #[.int .i64 0, .int .u32 0, .int .i64 0, .int .i64 0, .slice none 0 0] by rw [hwG0]; exact QF.out.setO (by have := HQ2.out.1; omega) _ _)
          have PG0 := Lib.hid (show Bq wG0 (w.heap.size + 1) 29 #[.int .i64 (pub : Nat), .int .u32 (seq : Nat), .int .i64 x, .int .i64 y, .slice a m c] by rw [hwG0]; exact PF.out.setO (by have := HQ2.out.1; omega) _ _)
          have OG0 := Lib.hid (show OA wG0 ((w.heap.size + 1) + 1) (.slice a m c) l by rw [hwG0]; exact OF.out.keep fun g e => Below.heap_setCell _ _ _ _ (by have := HOQ.out g e; show g ≠ wr.heap.size; omega))
          have AG0 := Lib.hid (show Bq wG0 wr.heap.size 50 #[.string sn, .bool false, .int .i64 nu, .string ⟨#[]⟩] by rw [hwG0]; exact AF.out.set 2 _)
          have RG0 := Lib.hid (show RfW wG0 p z L t4 by rw [hwG0]; exact RF.out.set hne3 HQ2.out.2.2.2 _ _)
          clear hwG0
          obtain ⟨c0, c1, c2, c3⟩ := AF.out.c4
          have hf := AF.out.fr
          go_upto_region 16 with fail
          clear c0 c1 c2 c3 hf
          rw [← HWG0.out]
          obtain ⟨c0, c1, c2, c3⟩ := AG0.out.c4
          obtain ⟨d0, d1, d2, d3, d4⟩ := PG0.out.c5
          obtain ⟨wh, hwh⟩ : ∃ W0 : World, W0 = wG0.alloc (.cells #[.string sn, .bool false, .int .i64 nu, .string ⟨#[]⟩] 50) := ⟨_, rfl⟩
          have HWH := Lib.hid hwh
          have GH := Lib.hid (show w.grownBy wh (some p) by rw [hwh]; exact gr_al GG0.out _)
          have QH := Lib.hid (show Bq wh w.heap.size 29 #[.int .i64 0, .int .u32 0, .int .i64 0, .int .i64 0, .slice none 0 0] by rw [hwh]; exact QG0.out.alloc _)
          have PH := Lib.hid (show Bq wh (w.heap.size + 1) 29 #[.int .i64 (pub : Nat), .int .u32 (seq : Nat), .int .i64 x, .int .i64 y, .slice a m c] by rw [hwh]; exact PG0.out.alloc _)
          have OH := Lib.hid (show OA wh ((w.heap.size + 1) + 1) (.slice a m c) l by rw [hwh]; exact OG0.out.keep fun g e => Below.heap_alloc _ _ _ (OG0.out.lt e).2)
          have RH := Lib.hid (show RfW wh p z L t4 by rw [hwh]; exact RG0.out.alloc _)
          have NH := Lib.hid (show ∀ j u, [Value.string sn, .bool false, .int .i64 nu, .string ⟨#[]⟩][j]? = some u → wh.cell? ((⟨wG0.heap.size, 0, none⟩ : Addr).add j) = some u by rw [hwh]; exact new_att wG0 _ _ _ _ _)
          have HZH := Lib.hid (show (w.heap.size + 1) + 1 ≤ wh.heap.size by have := PH.out.lt; omega)
          clear hwh
          go_wp2_with (at_builtin; rw [← HWH.out]; refine wpList_append_own_at _ rfl _ _ 27 rfl ((w.heap.size + 1) + 1) 50 i0 (.agg #[.string ⟨#[]⟩, .bool false, .int .i64 0, .string ⟨#[]⟩]) 4 48 Try.underlying27 hi hz0 hz1 hz2 rfl (by decide) _ _ _ rfl OH.out ⟨wG0.heap.size, 0, none⟩ 1 1 [.string sn, .bool false, .int .i64 nu, .string ⟨#[]⟩] rfl rfl NH.out (one_att _ _ _ _) (by have := hl.out.1; have := HN16.out; unfold maxLen; omega) (by have := hl.out.1; have := HN16.out; omega) HZH.out ?_; intro v' wi hrow hgi hni hati; obtain ⟨a', m', c', e'⟩ := own_slice hrow; subst e'; clear c0 c1 c2 c3 d0 d1 d2 d3 d4; have PI := Lib.hid (PH.out.gro hgi (fun k hk => by have := (OH.out.lt hk).1; omega)); obtain ⟨d0, d1, d2, d3, d4⟩ := PI.out.c5; have df := PI.out.fr)
          clear d0 d1 d2 d3 d4 df
          have GI := Lib.hid (gr_own GH.out hgi (fun k hk => by have := (OH.out.lt hk).1; omega))
          have QI := Lib.hid (QH.out.gro hgi (fun k hk => by have := (OH.out.lt hk).1; omega))
          have RI := Lib.hid (RH.out.gro hgi (fun k hk => by have := (OH.out.lt hk).1; have := HLT.out; omega))
          have OI := Lib.hid (show OA wi ((w.heap.size + 1) + 1) (.slice a' m' c') (l ++ [(⟨nm, false, nu, []⟩ : Att)]) by
            unfold OA
            rw [List.length_append, attCs_app, show attCs [(⟨nm, false, nu, []⟩ : Att)] = [.string sn, .bool false, .int .i64 nu, .string ⟨#[]⟩] by simp [attCs, attC, bs, HSN.out]]
            exact hrow)
          clear hrow hgi hni hati
          obtain ⟨wj, hwj⟩ : ∃ W0 : World, W0 = wi.setCell ⟨(w.heap.size + 1), 4, none⟩ (.slice a' m' c') := ⟨_, rfl⟩
          have GJ := Lib.hid (show w.grownBy wj (some p) by rw [hwj]; exact gr_new GI.out (by omega) _ _)
          have QJ := Lib.hid (show Bq wj w.heap.size 29 #[.int .i64 0, .int .u32 0, .int .i64 0, .int .i64 0, .slice none 0 0] by rw [hwj]; exact QI.out.setO (by omega) _ _)
          have PJ := Lib.hid (show Bq wj (w.heap.size + 1) 29 #[.int .i64 (pub : Nat), .int .u32 (seq : Nat), .int .i64 x, .int .i64 y, (.slice a' m' c')] by rw [hwj]; exact PI.out.set 4 _)
          have RJ := Lib.hid (show RfW wj p z L t4 by rw [hwj]; exact RI.out.set hne2 (by have := HZP.out; have := HLT.out; omega) _ _)
          have OJ := Lib.hid (show OA wj ((w.heap.size + 1) + 1) (.slice a' m' c') (l ++ [(⟨nm, false, nu, []⟩ : Att)]) by rw [hwj]; exact OI.out.keep fun g e => Below.heap_setCell _ _ _ _ (by have := (OI.out.lt e).1; show g ≠ w.heap.size + 1; omega))
          rw [← hwj]
          clear hwj
          have HL2 := Lib.hid (show (l ++ [(⟨nm, false, nu, []⟩ : Att)]).length = k + 1 ∧ attsR n s5 = ((l ++ [(⟨nm, false, nu, []⟩ : Att)]) ++ (attsR (n - (k + 1)) t4).1, (attsR (n - (k + 1)) t4).2) ∧ ∀ v ∈ l ++ [(⟨nm, false, nu, []⟩ : Att)], attOk v by
            refine ⟨by rw [List.length_append, hl.out.1]; rfl, ?_, ?_⟩
            · rw [hl.out.2.1, show n - k = (n - (k + 1)) + 1 by omega, attsR_step rfl, HAT.out]
              simp
            · intro v hv
              rcases List.mem_append.1 hv with h | h
              · exact hl.out.2.2 v h
              · rw [List.mem_singleton.1 h]; have := attS_ok (0, tl); rw [HAT.out] at this; exact this)
          go_roundw
          case rel => exact ⟨k + 1, l ++ [(⟨nm, false, nu, []⟩ : Att)], t4, a', m', c', by go_num, by omega, HL2, RJ.out, GJ.out, QJ.out, PJ.out, OJ.out⟩
          case measure => simp [intOf]; omega
      · have HAT := Lib.hid (Or.out.atts hl.out.2.2 (by have := hl.out.1; have := HN16.out; have := HK.out; unfold maxLen; omega))
        obtain ⟨c0, c1, c2, c3, c4⟩ := Pr.out.c5
        have HEND := Lib.hid (show attsR n s5 = (l, (te, tl)) by
          have h := hl.out.2.1
          rw [attsR_bad (s := (te, tl)) h0] at h
          simpa using h)
        have htz : ((te : Int) == 0) = false := by rw [beq_eq_false_iff_ne]; omega
        have htz2 : ¬ (te : Int) = 0 := by omega
        go_wp2_with (skip; (refine wpList_store_rowTo rfl _ _ _ rfl rfl w.heap.size _ rfl rfl _ #[.int .i64 0, .int .u32 0, .int .i64 0, .int .i64 0, .slice none 0 0] Qr.out (by kernel_rfl) rfl (by simp [Value.oneCell']) ?_))
        refine ret5e Try.results37 rfl (Qr.out.row _) rfl ?_
        rw [HRES.out, HEND.out]
        refine ⟨a, c, by simp only; rw [HML.out], Rr.out.row hne (by have := HZP.out; have := HLT.out; omega) _, gr_row Gr.out (Nat.le_refl _) _, ?_⟩
        exact HAT.out.2.far fun g hg => ⟨⟨by omega, by have := hg.2; simpa using this⟩, setRow_other _ _ _ _ (by omega)⟩
    · have hlz : ¬ (k : Int) < (n : Int) := by omega
      have hkn : k = n := by have := HK.out; omega
      have HAT := Lib.hid (Or.out.atts hl.out.2.2 (by have := hl.out.1; have := HN16.out; have := HK.out; unfold maxLen; omega))
      obtain ⟨c0, c1, c2, c3, c4⟩ := Pr.out.c5
      have HEND := Lib.hid (show attsR n s5 = (l, (te, tl)) by
        have h := hl.out.2.1
        rw [hkn, Nat.sub_self] at h
        simpa [attsR] using h)
      clear hkn
      go_wp2_with (skip; (refine wpList_store_rowTo rfl _ _ _ rfl rfl w.heap.size _ rfl rfl _ #[.int .i64 0, .int .u32 0, .int .i64 0, .int .i64 0, .slice none 0 0] Qr.out (by kernel_rfl) rfl (by simp [Value.oneCell']) ?_))
      refine ret5e Try.results37 rfl (Qr.out.row _) rfl ?_
      rw [HRES.out, HEND.out]
      refine ⟨a, c, by simp only; rw [HML.out], Rr.out.row hne (by have := HZP.out; have := HLT.out; omega) _, gr_row Gr.out (Nat.le_refl _) _, ?_⟩
      exact HAT.out.2.far fun g hg => ⟨⟨by omega, by have := hg.2; simpa using this⟩, setRow_other _ _ _ _ (by omega)⟩
end Go.Proofs.Ytndgbdbjmogioaa.Wi
