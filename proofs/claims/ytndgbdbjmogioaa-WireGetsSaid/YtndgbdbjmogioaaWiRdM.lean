/-
  Contract of message of package wire's reader. All else is left as it was.
-/
import Derived.Test.YtndgbdbjmogioaaWiRdE
namespace Go.Proofs.Ytndgbdbjmogioaa.Wi
open Go.RowKit Go.Proofs.Ytndgbdbjmogioaa.Fl
set_option linter.unusedVariables false
set_option linter.unusedSimpArgs false

def msgV (m : Msg) (a : Option Addr) (c : Nat) : Value := .agg #[.int .i64 m.kind, .int .i64 m.sub, .int .i64 m.ver, .int .i64 m.home, .int .i64 m.x1, .int .i64 m.y1, .int .i64 m.x2, .int .i64 m.y2, bs m.flt, .int .i64 m.ev.pub, .int .u32 (m.ev.seq : Nat), .int .i64 m.ev.x, .int .i64 m.ev.y, .slice a m.ev.attrs.length c]
/-- What a reader of a message tells. -/
def MsgE (p z : Nat) (m : Msg) (s : St) (w w' : World) (e : Ending) : Prop :=
  ∃ a c, e = .returned (msgV m a c) ∧ RdW w' p z s ∧ w.grownBy w' (some p) ∧ AttsAt w' (fun g => w.heap.size ≤ g ∧ g < w'.heap.size) a m.ev.attrs
set_option maxHeartbeats 8000000
set_option maxRecDepth 100000
theorem ret14 {s : Nat} {fn : Func} {R : Ending → World → Prop} {a : Act} {V : World} {q : Nat} {u : TypeId} {x0 x1 x2 x3 x4 x5 x6 x7 x8 x9 x10 x11 x12 x13 : Value} (hr : fn.results = #[.cell s 31]) (h2 : a.tmps.getD s undef = .pointer (some ⟨q, 0, none⟩)) (hb : Bq V q u #[x0, x1, x2, x3, x4, x5, x6, x7, x8, x9, x10, x11, x12, x13]) (hd : a.defers = [])
    (hR : R (.returned (.agg #[x0, x1, x2, x3, x4, x5, x6, x7, x8, x9, x10, x11, x12, x13])) V) : bodyPost Try.prog fn R .ret a V := by
  obtain ⟨b0, b1, b2, b3, b4, b5, b6, b7, b8, b9, b10, b11, b12, b13⟩ := hb.c14
  refine bodyPost_ret (v := .agg #[x0, x1, x2, x3, x4, x5, x6, x7, x8, x9, x10, x11, x12, x13]) ?_ hd hR
  rw [Array.getD_eq_getD_getElem?] at h2
  simp [results, hr, go_sem, h2, b0, b1, b2, b3, b4, b5, b6, b7, b8, b9, b10, b11, b12, b13]
theorem atts_none2 (W : World) (S : Nat → Prop) (a : Option Addr) : AttsAt W S a [] := ⟨by simp [maxLen], by simp, fun h => by simp at h⟩
theorem ret14e {s : Nat} {fn : Func} {R : Ending → World → Prop} {a : Act} {V : World} {q : Nat} {u : TypeId} {m : Msg} {aa : Option Addr} {c : Nat} {sf : ByteArray} (hf : bs m.flt = .string sf) (hr : fn.results = #[.cell s 31]) (h2 : a.tmps.getD s undef = .pointer (some ⟨q, 0, none⟩)) (hb : Bq V q u #[.int .i64 m.kind, .int .i64 m.sub, .int .i64 m.ver, .int .i64 m.home, .int .i64 m.x1, .int .i64 m.y1, .int .i64 m.x2, .int .i64 m.y2, .string sf, .int .i64 m.ev.pub, .int .u32 (m.ev.seq : Nat), .int .i64 m.ev.x, .int .i64 m.ev.y, .slice aa m.ev.attrs.length c]) (hd : a.defers = [])
    (hR : R (.returned (msgV m aa c)) V) : bodyPost Try.prog fn R .ret a V := by
  refine ret14 hr h2 hb hd ?_
  unfold msgV at hR
  rw [hf] at hR
  exact hR
theorem msg_rd0 (p z : Nat) (s s1 : St) (hk : numS 4 s = (0, s1)) (w : World) (hR : RdW w p z s) :
    Calls Try.prog 31 #[.pointer (some ⟨p, 0, none⟩)] w fun e w' => MsgE p z (msgC s).1 (msgC s).2 w w' e := by
  have HLT := Lib.hid hR.lt
  have HZP := Lib.hid hR.zp
  have HRES := Lib.hid (show msgC s = (⟨0, 0, 0, 0, 0, 0, 0, 0, [], ev0⟩, s1) by
    unfold msgC
    rw [hk]
    rfl)
  obtain ⟨w1, hw1⟩ : ∃ W0 : World, W0 = w.alloc (.cells #[.int .i64 0, .int .i64 0, .int .i64 0, .int .i64 0, .int .i64 0, .int .i64 0, .int .i64 0, .int .i64 0, .string ⟨#[]⟩, .int .i64 0, .int .u32 0, .int .i64 0, .int .i64 0, .slice none 0 0] 31) := ⟨_, rfl⟩
  have HW1 := Lib.hid hw1
  have G1 := Lib.hid (show w.grownBy w1 (some p) by rw [hw1]; exact World.grownBy_alloc _ _ _)
  have Q1 := Lib.hid (show Bq w1 w.heap.size 31 #[.int .i64 0, .int .i64 0, .int .i64 0, .int .i64 0, .int .i64 0, .int .i64 0, .int .i64 0, .int .i64 0, .string ⟨#[]⟩, .int .i64 0, .int .u32 0, .int .i64 0, .int .i64 0, .slice none 0 0] by rw [hw1]; exact Bq.new _ _ _)
  have R1 := Lib.hid (show RdW w1 p z s by rw [hw1]; exact hR.alloc _)
  have C : Calls Try.prog 50 #[.pointer (some ⟨p, 0, none⟩), .int .i64 ((4 : Nat) : Int)] w1 fun e w' => RdE p z (.int .i64 0) s1 w1 w' e := by
    have := whole_rd p z 4 (by omega) s w1 R1.out
    rw [hk] at this
    exact this
  have HC := Lib.hid C
  have hne : ¬ w.heap.size = p := by have := HLT.out; omega
  clear hw1 hR C hk 
  go_enter Try.func31, Try.ntmps31
  go_wp2_with fail
  rw [← HW1.out]
  refine Calls.mono HC.out ?_
  rintro e1 w2 ⟨rfl, hr2, hg2⟩
  have G2 := Lib.hid (G1.out.trans hg2)
  have Q2 := Lib.hid (Q1.out.gr hg2 hne)
  have HS2 := Lib.hid Q2.out.lt
  obtain ⟨w3, hw3⟩ : ∃ W0 : World, W0 = w2.alloc (.cells #[.int .i64 0, .int .i64 0, .int .i64 0, .int .i64 0, .int .i64 0, .int .i64 0, .int .i64 0, .int .i64 0, .string ⟨#[]⟩, .int .i64 0, .int .u32 0, .int .i64 0, .int .i64 0, .slice none 0 0] 31) := ⟨_, rfl⟩
  have HW3 := Lib.hid hw3
  have G3 := Lib.hid (show w.grownBy w3 (some p) by rw [hw3]; exact gr_al G2.out _)
  have Q3 := Lib.hid (show Bq w3 w.heap.size 31 #[.int .i64 0, .int .i64 0, .int .i64 0, .int .i64 0, .int .i64 0, .int .i64 0, .int .i64 0, .int .i64 0, .string ⟨#[]⟩, .int .i64 0, .int .u32 0, .int .i64 0, .int .i64 0, .slice none 0 0] by rw [hw3]; exact Q2.out.alloc _)
  have P3 := Lib.hid (show Bq w3 w2.heap.size 31 #[.int .i64 0, .int .i64 0, .int .i64 0, .int .i64 0, .int .i64 0, .int .i64 0, .int .i64 0, .int .i64 0, .string ⟨#[]⟩, .int .i64 0, .int .u32 0, .int .i64 0, .int .i64 0, .slice none 0 0] by rw [hw3]; exact Bq.new _ _ _)
  have R3 := Lib.hid (show RdW w3 p z s1 by rw [hw3]; exact hr2.alloc _)
  have hne2 : ¬ w2.heap.size = p := by have := HLT.out; have := HS2.out; omega
  have hneq : ¬ w2.heap.size = w.heap.size := by have := HS2.out; omega
  have hneq2 : ¬ w.heap.size = w2.heap.size := by have := HS2.out; omega
  clear hw3 hr2 hg2
  obtain ⟨c0, c1, c2, c3, c4, c5, c6, c7, c8, c9, c10, c11, c12, c13⟩ := P3.out.c14
  go_wp2_with (skip; rw [← HW3.out]; (refine wpList_store_rowTo rfl _ _ _ rfl rfl w.heap.size _ rfl rfl _ #[.int .i64 0, .int .i64 0, .int .i64 0, .int .i64 0, .int .i64 0, .int .i64 0, .int .i64 0, .int .i64 0, .string ⟨#[]⟩, .int .i64 0, .int .u32 0, .int .i64 0, .int .i64 0, .slice none 0 0] Q3.out (by kernel_rfl) rfl (by simp [Value.oneCell']) ?_))
  rw [HRES.out]
  refine ret14e (m := ⟨0, 0, 0, 0, 0, 0, 0, 0, [], ev0⟩) (aa := none) (c := 0) (sf := ⟨#[]⟩) (rfl) Try.results31 rfl (Q3.out.row _) rfl ?_
  exact ⟨none, 0, rfl, R3.out.row hne (by have := HZP.out; have := HLT.out; omega) _, gr_row G3.out (Nat.le_refl _) _, atts_none2 _ _ _⟩
theorem msg_rd1 (p z : Nat) (s s1 : St) (hk : numS 4 s = (1, s1)) (w : World) (hR : RdW w p z s) :
    Calls Try.prog 31 #[.pointer (some ⟨p, 0, none⟩)] w fun e w' => MsgE p z (msgC s).1 (msgC s).2 w w' e := by
  have HLT := Lib.hid hR.lt
  have HZP := Lib.hid hR.zp
  obtain ⟨sub, s2, e1⟩ : ∃ v t, numS 2147483647 s1 = (v, t) := ⟨_, _, rfl⟩
  obtain ⟨ver, s3, e2⟩ : ∃ v t, numS 2147483647 s2 = (v, t) := ⟨_, _, rfl⟩
  obtain ⟨home, s4, e3⟩ : ∃ v t, numS 2147483647 s3 = (v, t) := ⟨_, _, rfl⟩
  obtain ⟨x1, s5, e4⟩ : ∃ v t, signS s4 = (v, t) := ⟨_, _, rfl⟩
  obtain ⟨y1, s6, e5⟩ : ∃ v t, signS s5 = (v, t) := ⟨_, _, rfl⟩
  obtain ⟨x2, s7, e6⟩ : ∃ v t, signS s6 = (v, t) := ⟨_, _, rfl⟩
  obtain ⟨y2, s8, e7⟩ : ∃ v t, signS s7 = (v, t) := ⟨_, _, rfl⟩
  obtain ⟨fl, s9, e8⟩ : ∃ v t, textS 500 s8 = (v, t) := ⟨_, _, rfl⟩
  obtain ⟨sf, ef, hsf⟩ := bs_of2 fl
  have HRES := Lib.hid (show msgC s = (⟨1, (sub : Nat), (ver : Nat), (home : Nat), x1, y1, x2, y2, fl, ev0⟩, s9) by
    unfold msgC
    rw [hk]
    show insS s1 = _
    unfold insS fewS mapS thenS
    simp only [e1, e2, e3, e4, e5, e6, e7, e8])
  have H1 := Lib.hid e1
  have H2 := Lib.hid e2
  have H3 := Lib.hid e3
  have H4 := Lib.hid e4
  have H5 := Lib.hid e5
  have H6 := Lib.hid e6
  have H7 := Lib.hid e7
  have H8 := Lib.hid e8
  have HSF := Lib.hid ef
  obtain ⟨w1, hw1⟩ : ∃ W0 : World, W0 = w.alloc (.cells #[.int .i64 0, .int .i64 0, .int .i64 0, .int .i64 0, .int .i64 0, .int .i64 0, .int .i64 0, .int .i64 0, .string ⟨#[]⟩, .int .i64 0, .int .u32 0, .int .i64 0, .int .i64 0, .slice none 0 0] 31) := ⟨_, rfl⟩
  have HW1 := Lib.hid hw1
  have G1 := Lib.hid (show w.grownBy w1 (some p) by rw [hw1]; exact World.grownBy_alloc _ _ _)
  have Q1 := Lib.hid (show Bq w1 w.heap.size 31 #[.int .i64 0, .int .i64 0, .int .i64 0, .int .i64 0, .int .i64 0, .int .i64 0, .int .i64 0, .int .i64 0, .string ⟨#[]⟩, .int .i64 0, .int .u32 0, .int .i64 0, .int .i64 0, .slice none 0 0] by rw [hw1]; exact Bq.new _ _ _)
  have R1 := Lib.hid (show RdW w1 p z s by rw [hw1]; exact hR.alloc _)
  have C : Calls Try.prog 50 #[.pointer (some ⟨p, 0, none⟩), .int .i64 ((4 : Nat) : Int)] w1 fun e w' => RdE p z (.int .i64 1) s1 w1 w' e := by
    have := whole_rd p z 4 (by omega) s w1 R1.out
    rw [hk] at this
    exact this
  have HC := Lib.hid C
  have hne : ¬ w.heap.size = p := by have := HLT.out; omega
  clear hw1 hR C hk e1 e2 e3 e4 e5 e6 e7 e8 ef hsf
  go_enter Try.func31, Try.ntmps31
  go_wp2_with fail
  rw [← HW1.out]
  refine Calls.mono HC.out ?_
  rintro e1 w2 ⟨rfl, hr2, hg2⟩
  have G2 := Lib.hid (G1.out.trans hg2)
  have Q2 := Lib.hid (Q1.out.gr hg2 hne)
  have HS2 := Lib.hid Q2.out.lt
  obtain ⟨w3, hw3⟩ : ∃ W0 : World, W0 = w2.alloc (.cells #[.int .i64 1, .int .i64 0, .int .i64 0, .int .i64 0, .int .i64 0, .int .i64 0, .int .i64 0, .int .i64 0, .string ⟨#[]⟩, .int .i64 0, .int .u32 0, .int .i64 0, .int .i64 0, .slice none 0 0] 31) := ⟨_, rfl⟩
  have HW3 := Lib.hid hw3
  have G3 := Lib.hid (show w.grownBy w3 (some p) by rw [hw3]; exact gr_al G2.out _)
  have Q3 := Lib.hid (show Bq w3 w.heap.size 31 #[.int .i64 0, .int .i64 0, .int .i64 0, .int .i64 0, .int .i64 0, .int .i64 0, .int .i64 0, .int .i64 0, .string ⟨#[]⟩, .int .i64 0, .int .u32 0, .int .i64 0, .int .i64 0, .slice none 0 0] by rw [hw3]; exact Q2.out.alloc _)
  have P3 := Lib.hid (show Bq w3 w2.heap.size 31 #[.int .i64 1, .int .i64 0, .int .i64 0, .int .i64 0, .int .i64 0, .int .i64 0, .int .i64 0, .int .i64 0, .string ⟨#[]⟩, .int .i64 0, .int .u32 0, .int .i64 0, .int .i64 0, .slice none 0 0] by rw [hw3]; exact Bq.new _ _ _)
  have R3 := Lib.hid (show RdW w3 p z s1 by rw [hw3]; exact hr2.alloc _)
  have hne2 : ¬ w2.heap.size = p := by have := HLT.out; have := HS2.out; omega
  have hneq : ¬ w2.heap.size = w.heap.size := by have := HS2.out; omega
  have hneq2 : ¬ w.heap.size = w2.heap.size := by have := HS2.out; omega
  clear hw3 hr2 hg2
  have C := whole_rd p z 2147483647 (by omega) s1 w3 R3.out
  rw [H1.out] at C
  have HC3 := Lib.hid C
  clear C
  go_wp2_with fail
  rw [← HW3.out]
  refine Calls.mono HC3.out ?_
  rintro e1 w4 ⟨rfl, hr4, hg4⟩
  obtain ⟨w5, hw5⟩ : ∃ W0 : World, W0 = (w4.setCell ⟨w2.heap.size, 1, none⟩ (.int .i64 (sub : Nat))) := ⟨_, rfl⟩
  have HW5 := Lib.hid hw5
  have P4 := Lib.hid (P3.out.gr hg4 hne2)
  have G5 := Lib.hid (show w.grownBy w5 (some p) by rw [hw5]; exact gr_new (G3.out.trans hg4) (by have := HS2.out; omega) _ _)
  have Q5 := Lib.hid (show Bq w5 w.heap.size 31 #[.int .i64 0, .int .i64 0, .int .i64 0, .int .i64 0, .int .i64 0, .int .i64 0, .int .i64 0, .int .i64 0, .string ⟨#[]⟩, .int .i64 0, .int .u32 0, .int .i64 0, .int .i64 0, .slice none 0 0] by rw [hw5]; exact (Q3.out.gr hg4 hne).setO hneq2 _ _)
  have P5 := Lib.hid (show Bq w5 w2.heap.size 31 #[.int .i64 1, .int .i64 (sub : Nat), .int .i64 0, .int .i64 0, .int .i64 0, .int .i64 0, .int .i64 0, .int .i64 0, .string ⟨#[]⟩, .int .i64 0, .int .u32 0, .int .i64 0, .int .i64 0, .slice none 0 0] by rw [hw5]; exact (P4.out).set 1 _)
  have R5 := Lib.hid (show RdW w5 p z s2 by rw [hw5]; exact (hr4).set hne2 (by have := HZP.out; have := HS2.out; have := HLT.out; omega) _ _)
  clear hw5 hr4 hg4 
  obtain ⟨c0, c1, c2, c3, c4, c5, c6, c7, c8, c9, c10, c11, c12, c13⟩ := P4.out.c14
  have hf := P4.out.fr
  go_wp2_with fail
  rw [← HW5.out]
  clear c0 c1 c2 c3 c4 c5 c6 c7 c8 c9 c10 c11 c12 c13 hf
  have C := whole_rd p z 2147483647 (by omega) s2 w5 R5.out
  rw [H2.out] at C
  have HC5 := Lib.hid C
  clear C
  refine Calls.mono HC5.out ?_
  rintro e1 w6 ⟨rfl, hr6, hg6⟩
  obtain ⟨w7, hw7⟩ : ∃ W0 : World, W0 = (w6.setCell ⟨w2.heap.size, 2, none⟩ (.int .i64 (ver : Nat))) := ⟨_, rfl⟩
  have HW7 := Lib.hid hw7
  have P6 := Lib.hid (P5.out.gr hg6 hne2)
  have G7 := Lib.hid (show w.grownBy w7 (some p) by rw [hw7]; exact gr_new (G5.out.trans hg6) (by have := HS2.out; omega) _ _)
  have Q7 := Lib.hid (show Bq w7 w.heap.size 31 #[.int .i64 0, .int .i64 0, .int .i64 0, .int .i64 0, .int .i64 0, .int .i64 0, .int .i64 0, .int .i64 0, .string ⟨#[]⟩, .int .i64 0, .int .u32 0, .int .i64 0, .int .i64 0, .slice none 0 0] by rw [hw7]; exact (Q5.out.gr hg6 hne).setO hneq2 _ _)
  have P7 := Lib.hid (show Bq w7 w2.heap.size 31 #[.int .i64 1, .int .i64 (sub : Nat), .int .i64 (ver : Nat), .int .i64 0, .int .i64 0, .int .i64 0, .int .i64 0, .int .i64 0, .string ⟨#[]⟩, .int .i64 0, .int .u32 0, .int .i64 0, .int .i64 0, .slice none 0 0] by rw [hw7]; exact (P6.out).set 2 _)
  have R7 := Lib.hid (show RdW w7 p z s3 by rw [hw7]; exact (hr6).set hne2 (by have := HZP.out; have := HS2.out; have := HLT.out; omega) _ _)
  clear hw7 hr6 hg6 
  obtain ⟨c0, c1, c2, c3, c4, c5, c6, c7, c8, c9, c10, c11, c12, c13⟩ := P6.out.c14
  have hf := P6.out.fr
  go_wp2_with fail
  rw [← HW7.out]
  clear c0 c1 c2 c3 c4 c5 c6 c7 c8 c9 c10 c11 c12 c13 hf
  have C := whole_rd p z 2147483647 (by omega) s3 w7 R7.out
  rw [H3.out] at C
  have HC7 := Lib.hid C
  clear C
  refine Calls.mono HC7.out ?_
  rintro e1 w8 ⟨rfl, hr8, hg8⟩
  obtain ⟨w9, hw9⟩ : ∃ W0 : World, W0 = (w8.setCell ⟨w2.heap.size, 3, none⟩ (.int .i64 (home : Nat))) := ⟨_, rfl⟩
  have HW9 := Lib.hid hw9
  have P8 := Lib.hid (P7.out.gr hg8 hne2)
  have G9 := Lib.hid (show w.grownBy w9 (some p) by rw [hw9]; exact gr_new (G7.out.trans hg8) (by have := HS2.out; omega) _ _)
  have Q9 := Lib.hid (show Bq w9 w.heap.size 31 #[.int .i64 0, .int .i64 0, .int .i64 0, .int .i64 0, .int .i64 0, .int .i64 0, .int .i64 0, .int .i64 0, .string ⟨#[]⟩, .int .i64 0, .int .u32 0, .int .i64 0, .int .i64 0, .slice none 0 0] by rw [hw9]; exact (Q7.out.gr hg8 hne).setO hneq2 _ _)
  have P9 := Lib.hid (show Bq w9 w2.heap.size 31 #[.int .i64 1, .int .i64 (sub : Nat), .int .i64 (ver : Nat), .int .i64 (home : Nat), .int .i64 0, .int .i64 0, .int .i64 0, .int .i64 0, .string ⟨#[]⟩, .int .i64 0, .int .u32 0, .int .i64 0, .int .i64 0, .slice none 0 0] by rw [hw9]; exact (P8.out).set 3 _)
  have R9 := Lib.hid (show RdW w9 p z s4 by rw [hw9]; exact (hr8).set hne2 (by have := HZP.out; have := HS2.out; have := HLT.out; omega) _ _)
  clear hw9 hr8 hg8 
  obtain ⟨c0, c1, c2, c3, c4, c5, c6, c7, c8, c9, c10, c11, c12, c13⟩ := P8.out.c14
  have hf := P8.out.fr
  go_wp2_with fail
  rw [← HW9.out]
  clear c0 c1 c2 c3 c4 c5 c6 c7 c8 c9 c10 c11 c12 c13 hf
  have C := rect_rd p z s4 s5 s6 s7 s8 x1 y1 x2 y2 H4.out H5.out H6.out H7.out w9 R9.out
  have HC9 := Lib.hid C
  clear C
  refine Calls.mono HC9.out ?_
  rintro e1 w10 ⟨rfl, hr10, hg10⟩
  obtain ⟨w11, hw11⟩ : ∃ W0 : World, W0 = ((((w10.setCell ⟨w2.heap.size, 4, none⟩ (.int .i64 x1)).setCell ⟨w2.heap.size, 5, none⟩ (.int .i64 y1)).setCell ⟨w2.heap.size, 6, none⟩ (.int .i64 x2)).setCell ⟨w2.heap.size, 7, none⟩ (.int .i64 y2)) := ⟨_, rfl⟩
  have HW11 := Lib.hid hw11
  have P10 := Lib.hid (P9.out.gr hg10 hne2)
  have G11 := Lib.hid (show w.grownBy w11 (some p) by rw [hw11]; exact gr_new (gr_new (gr_new (gr_new (G9.out.trans hg10) (by have := HS2.out; omega) _ _) (by have := HS2.out; omega) _ _) (by have := HS2.out; omega) _ _) (by have := HS2.out; omega) _ _)
  have Q11 := Lib.hid (show Bq w11 w.heap.size 31 #[.int .i64 0, .int .i64 0, .int .i64 0, .int .i64 0, .int .i64 0, .int .i64 0, .int .i64 0, .int .i64 0, .string ⟨#[]⟩, .int .i64 0, .int .u32 0, .int .i64 0, .int .i64 0, .slice none 0 0] by rw [hw11]; exact ((((Q9.out.gr hg10 hne).setO hneq2 _ _).setO hneq2 _ _).setO hneq2 _ _).setO hneq2 _ _)
  have P11 := Lib.hid (show Bq w11 w2.heap.size 31 #[.int .i64 1, .int .i64 (sub : Nat), .int .i64 (ver : Nat), .int .i64 (home : Nat), .int .i64 x1, .int .i64 y1, .int .i64 x2, .int .i64 y2, .string ⟨#[]⟩, .int .i64 0, .int .u32 0, .int .i64 0, .int .i64 0, .slice none 0 0] by rw [hw11]; exact ((((P10.out).set 4 _).set 5 _).set 6 _).set 7 _)
  have R11 := Lib.hid (show RdW w11 p z s8 by rw [hw11]; exact ((((hr10).set hne2 (by have := HZP.out; have := HS2.out; have := HLT.out; omega) _ _).set hne2 (by have := HZP.out; have := HS2.out; have := HLT.out; omega) _ _).set hne2 (by have := HZP.out; have := HS2.out; have := HLT.out; omega) _ _).set hne2 (by have := HZP.out; have := HS2.out; have := HLT.out; omega) _ _)
  clear hw11 hr10 hg10 
  obtain ⟨c0, c1, c2, c3, c4, c5, c6, c7, c8, c9, c10, c11, c12, c13⟩ := P10.out.c14
  have hf := P10.out.fr
  go_wp2_with fail
  rw [← HW11.out]
  clear c0 c1 c2 c3 c4 c5 c6 c7 c8 c9 c10 c11 c12 c13 hf
  have C := text_rd p z 500 (by omega) s8 w11 R11.out
  rw [H8.out] at C
  rw [show bs (fl, s9).1 = .string sf from HSF.out] at C
  have HC11 := Lib.hid C
  clear C
  refine Calls.mono HC11.out ?_
  rintro e1 w12 ⟨rfl, hr12, hg12⟩
  obtain ⟨w13, hw13⟩ : ∃ W0 : World, W0 = (w12.setCell ⟨w2.heap.size, 8, none⟩ (.string sf)) := ⟨_, rfl⟩
  have HW13 := Lib.hid hw13
  have P12 := Lib.hid (P11.out.gr hg12 hne2)
  have G13 := Lib.hid (show w.grownBy w13 (some p) by rw [hw13]; exact gr_new (G11.out.trans hg12) (by have := HS2.out; omega) _ _)
  have Q13 := Lib.hid (show Bq w13 w.heap.size 31 #[.int .i64 0, .int .i64 0, .int .i64 0, .int .i64 0, .int .i64 0, .int .i64 0, .int .i64 0, .int .i64 0, .string ⟨#[]⟩, .int .i64 0, .int .u32 0, .int .i64 0, .int .i64 0, .slice none 0 0] by rw [hw13]; exact (Q11.out.gr hg12 hne).setO hneq2 _ _)
  have P13 := Lib.hid (show Bq w13 w2.heap.size 31 #[.int .i64 1, .int .i64 (sub : Nat), .int .i64 (ver : Nat), .int .i64 (home : Nat), .int .i64 x1, .int .i64 y1, .int .i64 x2, .int .i64 y2, .string sf, .int .i64 0, .int .u32 0, .int .i64 0, .int .i64 0, .slice none 0 0] by rw [hw13]; exact (P12.out).set 8 _)
  have R13 := Lib.hid (show RdW w13 p z s9 by rw [hw13]; exact (hr12).set hne2 (by have := HZP.out; have := HS2.out; have := HLT.out; omega) _ _)
  clear hw13 hr12 hg12 
  obtain ⟨c0, c1, c2, c3, c4, c5, c6, c7, c8, c9, c10, c11, c12, c13⟩ := P12.out.c14
  have hf := P12.out.fr
  go_wp2_with (skip; rw [← HW13.out]; (refine wpList_store_rowTo rfl _ _ _ rfl rfl w.heap.size _ rfl rfl _ #[.int .i64 0, .int .i64 0, .int .i64 0, .int .i64 0, .int .i64 0, .int .i64 0, .int .i64 0, .int .i64 0, .string ⟨#[]⟩, .int .i64 0, .int .u32 0, .int .i64 0, .int .i64 0, .slice none 0 0] Q13.out (by kernel_rfl) rfl (by simp [Value.oneCell']) ?_))
  rw [HRES.out]
  refine ret14e (m := ⟨1, (sub : Nat), (ver : Nat), (home : Nat), x1, y1, x2, y2, fl, ev0⟩) (aa := none) (c := 0) (sf := sf) (HSF.out) Try.results31 rfl (Q13.out.row _) rfl ?_
  exact ⟨none, 0, rfl, R13.out.row hne (by have := HZP.out; have := HLT.out; omega) _, gr_row G13.out (Nat.le_refl _) _, atts_none2 _ _ _⟩
theorem msg_rd2 (p z : Nat) (s s1 : St) (hk : numS 4 s = (2, s1)) (w : World) (hR : RdW w p z s) :
    Calls Try.prog 31 #[.pointer (some ⟨p, 0, none⟩)] w fun e w' => MsgE p z (msgC s).1 (msgC s).2 w w' e := by
  have HLT := Lib.hid hR.lt
  have HZP := Lib.hid hR.zp
  obtain ⟨sub, s2, e1⟩ : ∃ v t, numS 2147483647 s1 = (v, t) := ⟨_, _, rfl⟩
  obtain ⟨ver, s3, e2⟩ : ∃ v t, numS 2147483647 s2 = (v, t) := ⟨_, _, rfl⟩
  have HRES := Lib.hid (show msgC s = (⟨2, (sub : Nat), (ver : Nat), 0, 0, 0, 0, 0, [], ev0⟩, s3) by
    unfold msgC
    rw [hk]
    show retS s1 = _
    unfold retS fewS mapS thenS
    simp only [e1, e2])
  have H1 := Lib.hid e1
  have H2 := Lib.hid e2
  obtain ⟨w1, hw1⟩ : ∃ W0 : World, W0 = w.alloc (.cells #[.int .i64 0, .int .i64 0, .int .i64 0, .int .i64 0, .int .i64 0, .int .i64 0, .int .i64 0, .int .i64 0, .string ⟨#[]⟩, .int .i64 0, .int .u32 0, .int .i64 0, .int .i64 0, .slice none 0 0] 31) := ⟨_, rfl⟩
  have HW1 := Lib.hid hw1
  have G1 := Lib.hid (show w.grownBy w1 (some p) by rw [hw1]; exact World.grownBy_alloc _ _ _)
  have Q1 := Lib.hid (show Bq w1 w.heap.size 31 #[.int .i64 0, .int .i64 0, .int .i64 0, .int .i64 0, .int .i64 0, .int .i64 0, .int .i64 0, .int .i64 0, .string ⟨#[]⟩, .int .i64 0, .int .u32 0, .int .i64 0, .int .i64 0, .slice none 0 0] by rw [hw1]; exact Bq.new _ _ _)
  have R1 := Lib.hid (show RdW w1 p z s by rw [hw1]; exact hR.alloc _)
  have C : Calls Try.prog 50 #[.pointer (some ⟨p, 0, none⟩), .int .i64 ((4 : Nat) : Int)] w1 fun e w' => RdE p z (.int .i64 2) s1 w1 w' e := by
    have := whole_rd p z 4 (by omega) s w1 R1.out
    rw [hk] at this
    exact this
  have HC := Lib.hid C
  have hne : ¬ w.heap.size = p := by have := HLT.out; omega
  clear hw1 hR C hk e1 e2 
  go_enter Try.func31, Try.ntmps31
  go_wp2_with fail
  rw [← HW1.out]
  refine Calls.mono HC.out ?_
  rintro e1 w2 ⟨rfl, hr2, hg2⟩
  have G2 := Lib.hid (G1.out.trans hg2)
  have Q2 := Lib.hid (Q1.out.gr hg2 hne)
  have HS2 := Lib.hid Q2.out.lt
  obtain ⟨w3, hw3⟩ : ∃ W0 : World, W0 = w2.alloc (.cells #[.int .i64 2, .int .i64 0, .int .i64 0, .int .i64 0, .int .i64 0, .int .i64 0, .int .i64 0, .int .i64 0, .string ⟨#[]⟩, .int .i64 0, .int .u32 0, .int .i64 0, .int .i64 0, .slice none 0 0] 31) := ⟨_, rfl⟩
  have HW3 := Lib.hid hw3
  have G3 := Lib.hid (show w.grownBy w3 (some p) by rw [hw3]; exact gr_al G2.out _)
  have Q3 := Lib.hid (show Bq w3 w.heap.size 31 #[.int .i64 0, .int .i64 0, .int .i64 0, .int .i64 0, .int .i64 0, .int .i64 0, .int .i64 0, .int .i64 0, .string ⟨#[]⟩, .int .i64 0, .int .u32 0, .int .i64 0, .int .i64 0, .slice none 0 0] by rw [hw3]; exact Q2.out.alloc _)
  have P3 := Lib.hid (show Bq w3 w2.heap.size 31 #[.int .i64 2, .int .i64 0, .int .i64 0, .int .i64 0, .int .i64 0, .int .i64 0, .int .i64 0, .int .i64 0, .string ⟨#[]⟩, .int .i64 0, .int .u32 0, .int .i64 0, .int .i64 0, .slice none 0 0] by rw [hw3]; exact Bq.new _ _ _)
  have R3 := Lib.hid (show RdW w3 p z s1 by rw [hw3]; exact hr2.alloc _)
  have hne2 : ¬ w2.heap.size = p := by have := HLT.out; have := HS2.out; omega
  have hneq : ¬ w2.heap.size = w.heap.size := by have := HS2.out; omega
  have hneq2 : ¬ w.heap.size = w2.heap.size := by have := HS2.out; omega
  clear hw3 hr2 hg2
  have C := whole_rd p z 2147483647 (by omega) s1 w3 R3.out
  rw [H1.out] at C
  have HC3 := Lib.hid C
  clear C
  go_wp2_with fail
  rw [← HW3.out]
  refine Calls.mono HC3.out ?_
  rintro e1 w4 ⟨rfl, hr4, hg4⟩
  obtain ⟨w5, hw5⟩ : ∃ W0 : World, W0 = (w4.setCell ⟨w2.heap.size, 1, none⟩ (.int .i64 (sub : Nat))) := ⟨_, rfl⟩
  have HW5 := Lib.hid hw5
  have P4 := Lib.hid (P3.out.gr hg4 hne2)
  have G5 := Lib.hid (show w.grownBy w5 (some p) by rw [hw5]; exact gr_new (G3.out.trans hg4) (by have := HS2.out; omega) _ _)
  have Q5 := Lib.hid (show Bq w5 w.heap.size 31 #[.int .i64 0, .int .i64 0, .int .i64 0, .int .i64 0, .int .i64 0, .int .i64 0, .int .i64 0, .int .i64 0, .string ⟨#[]⟩, .int .i64 0, .int .u32 0, .int .i64 0, .int .i64 0, .slice none 0 0] by rw [hw5]; exact (Q3.out.gr hg4 hne).setO hneq2 _ _)
  have P5 := Lib.hid (show Bq w5 w2.heap.size 31 #[.int .i64 2, .int .i64 (sub : Nat), .int .i64 0, .int .i64 0, .int .i64 0, .int .i64 0, .int .i64 0, .int .i64 0, .string ⟨#[]⟩, .int .i64 0, .int .u32 0, .int .i64 0, .int .i64 0, .slice none 0 0] by rw [hw5]; exact (P4.out).set 1 _)
  have R5 := Lib.hid (show RdW w5 p z s2 by rw [hw5]; exact (hr4).set hne2 (by have := HZP.out; have := HS2.out; have := HLT.out; omega) _ _)
  clear hw5 hr4 hg4 
  obtain ⟨c0, c1, c2, c3, c4, c5, c6, c7, c8, c9, c10, c11, c12, c13⟩ := P4.out.c14
  have hf := P4.out.fr
  go_wp2_with fail
  rw [← HW5.out]
  clear c0 c1 c2 c3 c4 c5 c6 c7 c8 c9 c10 c11 c12 c13 hf
  have C := whole_rd p z 2147483647 (by omega) s2 w5 R5.out
  rw [H2.out] at C
  have HC5 := Lib.hid C
  clear C
  refine Calls.mono HC5.out ?_
  rintro e1 w6 ⟨rfl, hr6, hg6⟩
  obtain ⟨w7, hw7⟩ : ∃ W0 : World, W0 = (w6.setCell ⟨w2.heap.size, 2, none⟩ (.int .i64 (ver : Nat))) := ⟨_, rfl⟩
  have HW7 := Lib.hid hw7
  have P6 := Lib.hid (P5.out.gr hg6 hne2)
  have G7 := Lib.hid (show w.grownBy w7 (some p) by rw [hw7]; exact gr_new (G5.out.trans hg6) (by have := HS2.out; omega) _ _)
  have Q7 := Lib.hid (show Bq w7 w.heap.size 31 #[.int .i64 0, .int .i64 0, .int .i64 0, .int .i64 0, .int .i64 0, .int .i64 0, .int .i64 0, .int .i64 0, .string ⟨#[]⟩, .int .i64 0, .int .u32 0, .int .i64 0, .int .i64 0, .slice none 0 0] by rw [hw7]; exact (Q5.out.gr hg6 hne).setO hneq2 _ _)
  have P7 := Lib.hid (show Bq w7 w2.heap.size 31 #[.int .i64 2, .int .i64 (sub : Nat), .int .i64 (ver : Nat), .int .i64 0, .int .i64 0, .int .i64 0, .int .i64 0, .int .i64 0, .string ⟨#[]⟩, .int .i64 0, .int .u32 0, .int .i64 0, .int .i64 0, .slice none 0 0] by rw [hw7]; exact (P6.out).set 2 _)
  have R7 := Lib.hid (show RdW w7 p z s3 by rw [hw7]; exact (hr6).set hne2 (by have := HZP.out; have := HS2.out; have := HLT.out; omega) _ _)
  clear hw7 hr6 hg6 
  obtain ⟨c0, c1, c2, c3, c4, c5, c6, c7, c8, c9, c10, c11, c12, c13⟩ := P6.out.c14
  have hf := P6.out.fr
  go_wp2_with (skip; rw [← HW7.out]; (refine wpList_store_rowTo rfl _ _ _ rfl rfl w.heap.size _ rfl rfl _ #[.int .i64 0, .int .i64 0, .int .i64 0, .int .i64 0, .int .i64 0, .int .i64 0, .int .i64 0, .int .i64 0, .string ⟨#[]⟩, .int .i64 0, .int .u32 0, .int .i64 0, .int .i64 0, .slice none 0 0] Q7.out (by kernel_rfl) rfl (by simp [Value.oneCell']) ?_))
  rw [HRES.out]
  refine ret14e (m := ⟨2, (sub : Nat), (ver : Nat), 0, 0, 0, 0, 0, [], ev0⟩) (aa := none) (c := 0) (sf := ⟨#[]⟩) (rfl) Try.results31 rfl (Q7.out.row _) rfl ?_
  exact ⟨none, 0, rfl, R7.out.row hne (by have := HZP.out; have := HLT.out; omega) _, gr_row G7.out (Nat.le_refl _) _, atts_none2 _ _ _⟩
theorem msg_rd3 (p z : Nat) (s s1 : St) (hk : numS 4 s = (3, s1)) (w : World) (hR : RdW w p z s) :
    Calls Try.prog 31 #[.pointer (some ⟨p, 0, none⟩)] w fun e w' => MsgE p z (msgC s).1 (msgC s).2 w w' e := by
  have HLT := Lib.hid hR.lt
  have HZP := Lib.hid hR.zp
  obtain ⟨ev, s2, e1⟩ : ∃ v t, evS' attsC s1 = (v, t) := ⟨_, _, rfl⟩
  have HRES := Lib.hid (show msgC s = (⟨3, 0, 0, 0, 0, 0, 0, 0, [], ev⟩, s2) by
    unfold msgC
    rw [hk]
    show eveS 3 attsC s1 = _
    unfold eveS mapS
    simp only [e1])
  have H1 := Lib.hid e1
  obtain ⟨w1, hw1⟩ : ∃ W0 : World, W0 = w.alloc (.cells #[.int .i64 0, .int .i64 0, .int .i64 0, .int .i64 0, .int .i64 0, .int .i64 0, .int .i64 0, .int .i64 0, .string ⟨#[]⟩, .int .i64 0, .int .u32 0, .int .i64 0, .int .i64 0, .slice none 0 0] 31) := ⟨_, rfl⟩
  have HW1 := Lib.hid hw1
  have G1 := Lib.hid (show w.grownBy w1 (some p) by rw [hw1]; exact World.grownBy_alloc _ _ _)
  have Q1 := Lib.hid (show Bq w1 w.heap.size 31 #[.int .i64 0, .int .i64 0, .int .i64 0, .int .i64 0, .int .i64 0, .int .i64 0, .int .i64 0, .int .i64 0, .string ⟨#[]⟩, .int .i64 0, .int .u32 0, .int .i64 0, .int .i64 0, .slice none 0 0] by rw [hw1]; exact Bq.new _ _ _)
  have R1 := Lib.hid (show RdW w1 p z s by rw [hw1]; exact hR.alloc _)
  have C : Calls Try.prog 50 #[.pointer (some ⟨p, 0, none⟩), .int .i64 ((4 : Nat) : Int)] w1 fun e w' => RdE p z (.int .i64 3) s1 w1 w' e := by
    have := whole_rd p z 4 (by omega) s w1 R1.out
    rw [hk] at this
    exact this
  have HC := Lib.hid C
  have hne : ¬ w.heap.size = p := by have := HLT.out; omega
  clear hw1 hR C hk e1 
  go_enter Try.func31, Try.ntmps31
  go_wp2_with fail
  rw [← HW1.out]
  refine Calls.mono HC.out ?_
  rintro e1 w2 ⟨rfl, hr2, hg2⟩
  have G2 := Lib.hid (G1.out.trans hg2)
  have Q2 := Lib.hid (Q1.out.gr hg2 hne)
  have HS2 := Lib.hid Q2.out.lt
  obtain ⟨w3, hw3⟩ : ∃ W0 : World, W0 = w2.alloc (.cells #[.int .i64 3, .int .i64 0, .int .i64 0, .int .i64 0, .int .i64 0, .int .i64 0, .int .i64 0, .int .i64 0, .string ⟨#[]⟩, .int .i64 0, .int .u32 0, .int .i64 0, .int .i64 0, .slice none 0 0] 31) := ⟨_, rfl⟩
  have HW3 := Lib.hid hw3
  have G3 := Lib.hid (show w.grownBy w3 (some p) by rw [hw3]; exact gr_al G2.out _)
  have Q3 := Lib.hid (show Bq w3 w.heap.size 31 #[.int .i64 0, .int .i64 0, .int .i64 0, .int .i64 0, .int .i64 0, .int .i64 0, .int .i64 0, .int .i64 0, .string ⟨#[]⟩, .int .i64 0, .int .u32 0, .int .i64 0, .int .i64 0, .slice none 0 0] by rw [hw3]; exact Q2.out.alloc _)
  have P3 := Lib.hid (show Bq w3 w2.heap.size 31 #[.int .i64 3, .int .i64 0, .int .i64 0, .int .i64 0, .int .i64 0, .int .i64 0, .int .i64 0, .int .i64 0, .string ⟨#[]⟩, .int .i64 0, .int .u32 0, .int .i64 0, .int .i64 0, .slice none 0 0] by rw [hw3]; exact Bq.new _ _ _)
  have R3 := Lib.hid (show RdW w3 p z s1 by rw [hw3]; exact hr2.alloc _)
  have hne2 : ¬ w2.heap.size = p := by have := HLT.out; have := HS2.out; omega
  have hneq : ¬ w2.heap.size = w.heap.size := by have := HS2.out; omega
  have hneq2 : ¬ w.heap.size = w2.heap.size := by have := HS2.out; omega
  clear hw3 hr2 hg2
  have C := event_rd p z s1 w3 R3.out
  rw [H1.out] at C
  have HC3 := Lib.hid C
  clear C
  go_wp2_with fail
  rw [← HW3.out]
  refine Calls.mono HC3.out ?_
  rintro e1 w4 ⟨a, c, rfl, hr4, hg4, ha4⟩
  obtain ⟨w5, hw5⟩ : ∃ W0 : World, W0 = (((((w4.setCell ⟨w2.heap.size, 9, none⟩ (.int .i64 ev.pub)).setCell ⟨w2.heap.size, 10, none⟩ (.int .u32 (ev.seq : Nat))).setCell ⟨w2.heap.size, 11, none⟩ (.int .i64 ev.x)).setCell ⟨w2.heap.size, 12, none⟩ (.int .i64 ev.y)).setCell ⟨w2.heap.size, 13, none⟩ (.slice a ev.attrs.length c)) := ⟨_, rfl⟩
  have HW5 := Lib.hid hw5
  have P4 := Lib.hid (P3.out.gr hg4 hne2)
  have G5 := Lib.hid (show w.grownBy w5 (some p) by rw [hw5]; exact gr_new (gr_new (gr_new (gr_new (gr_new (G3.out.trans hg4) (by have := HS2.out; omega) _ _) (by have := HS2.out; omega) _ _) (by have := HS2.out; omega) _ _) (by have := HS2.out; omega) _ _) (by have := HS2.out; omega) _ _)
  have Q5 := Lib.hid (show Bq w5 w.heap.size 31 #[.int .i64 0, .int .i64 0, .int .i64 0, .int .i64 0, .int .i64 0, .int .i64 0, .int .i64 0, .int .i64 0, .string ⟨#[]⟩, .int .i64 0, .int .u32 0, .int .i64 0, .int .i64 0, .slice none 0 0] by rw [hw5]; exact (((((Q3.out.gr hg4 hne).setO hneq2 _ _).setO hneq2 _ _).setO hneq2 _ _).setO hneq2 _ _).setO hneq2 _ _)
  have P5 := Lib.hid (show Bq w5 w2.heap.size 31 #[.int .i64 3, .int .i64 0, .int .i64 0, .int .i64 0, .int .i64 0, .int .i64 0, .int .i64 0, .int .i64 0, .string ⟨#[]⟩, .int .i64 ev.pub, .int .u32 (ev.seq : Nat), .int .i64 ev.x, .int .i64 ev.y, .slice a ev.attrs.length c] by rw [hw5]; exact (((((P4.out).set 9 _).set 10 _).set 11 _).set 12 _).set 13 _)
  have R5 := Lib.hid (show RdW w5 p z s2 by rw [hw5]; exact (((((hr4).set hne2 (by have := HZP.out; have := HS2.out; have := HLT.out; omega) _ _).set hne2 (by have := HZP.out; have := HS2.out; have := HLT.out; omega) _ _).set hne2 (by have := HZP.out; have := HS2.out; have := HLT.out; omega) _ _).set hne2 (by have := HZP.out; have := HS2.out; have := HLT.out; omega) _ _).set hne2 (by have := HZP.out; have := HS2.out; have := HLT.out; omega) _ _)
  have AT5 := Lib.hid (show AttsAt w5 (fun g => w.heap.size ≤ g ∧ g < w5.heap.size ∧ w2.heap.size < g) a ev.attrs by
    rw [hw5]
    exact ha4.far fun g hg => ⟨⟨by have := P3.out.lt; have := HS2.out; omega, by simpa [World.setCell] using hg.2, by have := P3.out.lt; omega⟩, by
      have hgn : g ≠ w2.heap.size := by have := P3.out.lt; omega
      exact (Below.heap_setCell _ _ _ _ hgn).trans ((Below.heap_setCell _ _ _ _ hgn).trans ((Below.heap_setCell _ _ _ _ hgn).trans ((Below.heap_setCell _ _ _ _ hgn).trans (Below.heap_setCell _ _ _ _ hgn))))⟩)
  clear hw5 hr4 hg4 ha4
  obtain ⟨c0, c1, c2, c3, c4, c5, c6, c7, c8, c9, c10, c11, c12, c13⟩ := P4.out.c14
  have hf := P4.out.fr
  go_wp2_with (skip; rw [← HW5.out]; (refine wpList_store_rowTo rfl _ _ _ rfl rfl w.heap.size _ rfl rfl _ #[.int .i64 0, .int .i64 0, .int .i64 0, .int .i64 0, .int .i64 0, .int .i64 0, .int .i64 0, .int .i64 0, .string ⟨#[]⟩, .int .i64 0, .int .u32 0, .int .i64 0, .int .i64 0, .slice none 0 0] Q5.out (by kernel_rfl) rfl (by simp [Value.oneCell']) ?_))
  rw [HRES.out]
  refine ret14e (m := ⟨3, 0, 0, 0, 0, 0, 0, 0, [], ev⟩) (aa := a) (c := c) (sf := ⟨#[]⟩) (rfl) Try.results31 rfl (Q5.out.row _) rfl ?_
  exact ⟨a, c, rfl, R5.out.row hne (by have := HZP.out; have := HLT.out; omega) _, gr_row G5.out (Nat.le_refl _) _, AT5.out.far fun g hg => ⟨⟨by omega, by have := hg.2.1; simpa using this⟩, setRow_other _ _ _ _ (by have := HS2.out; omega)⟩⟩
theorem msg_rd4 (p z : Nat) (s s1 : St) (hk : numS 4 s = (4, s1)) (w : World) (hR : RdW w p z s) :
    Calls Try.prog 31 #[.pointer (some ⟨p, 0, none⟩)] w fun e w' => MsgE p z (msgC s).1 (msgC s).2 w w' e := by
  have HLT := Lib.hid hR.lt
  have HZP := Lib.hid hR.zp
  obtain ⟨sub, s2, e1⟩ : ∃ v t, numS 2147483647 s1 = (v, t) := ⟨_, _, rfl⟩
  obtain ⟨ev, s3, e2⟩ : ∃ v t, evS' attsC s2 = (v, t) := ⟨_, _, rfl⟩
  have HRES := Lib.hid (show msgC s = (⟨4, (sub : Nat), 0, 0, 0, 0, 0, 0, [], ev⟩, s3) by
    unfold msgC
    rw [hk]
    show notS attsC s1 = _
    unfold notS fewS mapS thenS
    simp only [e1, e2])
  have H1 := Lib.hid e1
  have H2 := Lib.hid e2
  obtain ⟨w1, hw1⟩ : ∃ W0 : World, W0 = w.alloc (.cells #[.int .i64 0, .int .i64 0, .int .i64 0, .int .i64 0, .int .i64 0, .int .i64 0, .int .i64 0, .int .i64 0, .string ⟨#[]⟩, .int .i64 0, .int .u32 0, .int .i64 0, .int .i64 0, .slice none 0 0] 31) := ⟨_, rfl⟩
  have HW1 := Lib.hid hw1
  have G1 := Lib.hid (show w.grownBy w1 (some p) by rw [hw1]; exact World.grownBy_alloc _ _ _)
  have Q1 := Lib.hid (show Bq w1 w.heap.size 31 #[.int .i64 0, .int .i64 0, .int .i64 0, .int .i64 0, .int .i64 0, .int .i64 0, .int .i64 0, .int .i64 0, .string ⟨#[]⟩, .int .i64 0, .int .u32 0, .int .i64 0, .int .i64 0, .slice none 0 0] by rw [hw1]; exact Bq.new _ _ _)
  have R1 := Lib.hid (show RdW w1 p z s by rw [hw1]; exact hR.alloc _)
  have C : Calls Try.prog 50 #[.pointer (some ⟨p, 0, none⟩), .int .i64 ((4 : Nat) : Int)] w1 fun e w' => RdE p z (.int .i64 4) s1 w1 w' e := by
    have := whole_rd p z 4 (by omega) s w1 R1.out
    rw [hk] at this
    exact this
  have HC := Lib.hid C
  have hne : ¬ w.heap.size = p := by have := HLT.out; omega
  clear hw1 hR C hk e1 e2 
  go_enter Try.func31, Try.ntmps31
  go_wp2_with fail
  rw [← HW1.out]
  refine Calls.mono HC.out ?_
  rintro e1 w2 ⟨rfl, hr2, hg2⟩
  have G2 := Lib.hid (G1.out.trans hg2)
  have Q2 := Lib.hid (Q1.out.gr hg2 hne)
  have HS2 := Lib.hid Q2.out.lt
  obtain ⟨w3, hw3⟩ : ∃ W0 : World, W0 = w2.alloc (.cells #[.int .i64 4, .int .i64 0, .int .i64 0, .int .i64 0, .int .i64 0, .int .i64 0, .int .i64 0, .int .i64 0, .string ⟨#[]⟩, .int .i64 0, .int .u32 0, .int .i64 0, .int .i64 0, .slice none 0 0] 31) := ⟨_, rfl⟩
  have HW3 := Lib.hid hw3
  have G3 := Lib.hid (show w.grownBy w3 (some p) by rw [hw3]; exact gr_al G2.out _)
  have Q3 := Lib.hid (show Bq w3 w.heap.size 31 #[.int .i64 0, .int .i64 0, .int .i64 0, .int .i64 0, .int .i64 0, .int .i64 0, .int .i64 0, .int .i64 0, .string ⟨#[]⟩, .int .i64 0, .int .u32 0, .int .i64 0, .int .i64 0, .slice none 0 0] by rw [hw3]; exact Q2.out.alloc _)
  have P3 := Lib.hid (show Bq w3 w2.heap.size 31 #[.int .i64 4, .int .i64 0, .int .i64 0, .int .i64 0, .int .i64 0, .int .i64 0, .int .i64 0, .int .i64 0, .string ⟨#[]⟩, .int .i64 0, .int .u32 0, .int .i64 0, .int .i64 0, .slice none 0 0] by rw [hw3]; exact Bq.new _ _ _)
  have R3 := Lib.hid (show RdW w3 p z s1 by rw [hw3]; exact hr2.alloc _)
  have hne2 : ¬ w2.heap.size = p := by have := HLT.out; have := HS2.out; omega
  have hneq : ¬ w2.heap.size = w.heap.size := by have := HS2.out; omega
  have hneq2 : ¬ w.heap.size = w2.heap.size := by have := HS2.out; omega
  clear hw3 hr2 hg2
  have C := whole_rd p z 2147483647 (by omega) s1 w3 R3.out
  rw [H1.out] at C
  have HC3 := Lib.hid C
  clear C
  go_wp2_with fail
  rw [← HW3.out]
  refine Calls.mono HC3.out ?_
  rintro e1 w4 ⟨rfl, hr4, hg4⟩
  obtain ⟨w5, hw5⟩ : ∃ W0 : World, W0 = (w4.setCell ⟨w2.heap.size, 1, none⟩ (.int .i64 (sub : Nat))) := ⟨_, rfl⟩
  have HW5 := Lib.hid hw5
  have P4 := Lib.hid (P3.out.gr hg4 hne2)
  have G5 := Lib.hid (show w.grownBy w5 (some p) by rw [hw5]; exact gr_new (G3.out.trans hg4) (by have := HS2.out; omega) _ _)
  have Q5 := Lib.hid (show Bq w5 w.heap.size 31 #[.int .i64 0, .int .i64 0, .int .i64 0, .int .i64 0, .int .i64 0, .int .i64 0, .int .i64 0, .int .i64 0, .string ⟨#[]⟩, .int .i64 0, .int .u32 0, .int .i64 0, .int .i64 0, .slice none 0 0] by rw [hw5]; exact (Q3.out.gr hg4 hne).setO hneq2 _ _)
  have P5 := Lib.hid (show Bq w5 w2.heap.size 31 #[.int .i64 4, .int .i64 (sub : Nat), .int .i64 0, .int .i64 0, .int .i64 0, .int .i64 0, .int .i64 0, .int .i64 0, .string ⟨#[]⟩, .int .i64 0, .int .u32 0, .int .i64 0, .int .i64 0, .slice none 0 0] by rw [hw5]; exact (P4.out).set 1 _)
  have R5 := Lib.hid (show RdW w5 p z s2 by rw [hw5]; exact (hr4).set hne2 (by have := HZP.out; have := HS2.out; have := HLT.out; omega) _ _)
  clear hw5 hr4 hg4 
  obtain ⟨c0, c1, c2, c3, c4, c5, c6, c7, c8, c9, c10, c11, c12, c13⟩ := P4.out.c14
  have hf := P4.out.fr
  go_wp2_with fail
  rw [← HW5.out]
  clear c0 c1 c2 c3 c4 c5 c6 c7 c8 c9 c10 c11 c12 c13 hf
  have C := event_rd p z s2 w5 R5.out
  rw [H2.out] at C
  have HC5 := Lib.hid C
  clear C
  refine Calls.mono HC5.out ?_
  rintro e1 w6 ⟨a, c, rfl, hr6, hg6, ha6⟩
  obtain ⟨w7, hw7⟩ : ∃ W0 : World, W0 = (((((w6.setCell ⟨w2.heap.size, 9, none⟩ (.int .i64 ev.pub)).setCell ⟨w2.heap.size, 10, none⟩ (.int .u32 (ev.seq : Nat))).setCell ⟨w2.heap.size, 11, none⟩ (.int .i64 ev.x)).setCell ⟨w2.heap.size, 12, none⟩ (.int .i64 ev.y)).setCell ⟨w2.heap.size, 13, none⟩ (.slice a ev.attrs.length c)) := ⟨_, rfl⟩
  have HW7 := Lib.hid hw7
  have P6 := Lib.hid (P5.out.gr hg6 hne2)
  have G7 := Lib.hid (show w.grownBy w7 (some p) by rw [hw7]; exact gr_new (gr_new (gr_new (gr_new (gr_new (G5.out.trans hg6) (by have := HS2.out; omega) _ _) (by have := HS2.out; omega) _ _) (by have := HS2.out; omega) _ _) (by have := HS2.out; omega) _ _) (by have := HS2.out; omega) _ _)
  have Q7 := Lib.hid (show Bq w7 w.heap.size 31 #[.int .i64 0, .int .i64 0, .int .i64 0, .int .i64 0, .int .i64 0, .int .i64 0, .int .i64 0, .int .i64 0, .string ⟨#[]⟩, .int .i64 0, .int .u32 0, .int .i64 0, .int .i64 0, .slice none 0 0] by rw [hw7]; exact (((((Q5.out.gr hg6 hne).setO hneq2 _ _).setO hneq2 _ _).setO hneq2 _ _).setO hneq2 _ _).setO hneq2 _ _)
  have P7 := Lib.hid (show Bq w7 w2.heap.size 31 #[.int .i64 4, .int .i64 (sub : Nat), .int .i64 0, .int .i64 0, .int .i64 0, .int .i64 0, .int .i64 0, .int .i64 0, .string ⟨#[]⟩, .int .i64 ev.pub, .int .u32 (ev.seq : Nat), .int .i64 ev.x, .int .i64 ev.y, .slice a ev.attrs.length c] by rw [hw7]; exact (((((P6.out).set 9 _).set 10 _).set 11 _).set 12 _).set 13 _)
  have R7 := Lib.hid (show RdW w7 p z s3 by rw [hw7]; exact (((((hr6).set hne2 (by have := HZP.out; have := HS2.out; have := HLT.out; omega) _ _).set hne2 (by have := HZP.out; have := HS2.out; have := HLT.out; omega) _ _).set hne2 (by have := HZP.out; have := HS2.out; have := HLT.out; omega) _ _).set hne2 (by have := HZP.out; have := HS2.out; have := HLT.out; omega) _ _).set hne2 (by have := HZP.out; have := HS2.out; have := HLT.out; omega) _ _)
  have AT7 := Lib.hid (show AttsAt w7 (fun g => w.heap.size ≤ g ∧ g < w7.heap.size ∧ w2.heap.size < g) a ev.attrs by
    rw [hw7]
    exact ha6.far fun g hg => ⟨⟨by have := P5.out.lt; have := HS2.out; omega, by simpa [World.setCell] using hg.2, by have := P5.out.lt; omega⟩, by
      have hgn : g ≠ w2.heap.size := by have := P5.out.lt; omega
      exact (Below.heap_setCell _ _ _ _ hgn).trans ((Below.heap_setCell _ _ _ _ hgn).trans ((Below.heap_setCell _ _ _ _ hgn).trans ((Below.heap_setCell _ _ _ _ hgn).trans (Below.heap_setCell _ _ _ _ hgn))))⟩)
  clear hw7 hr6 hg6 ha6
  obtain ⟨c0, c1, c2, c3, c4, c5, c6, c7, c8, c9, c10, c11, c12, c13⟩ := P6.out.c14
  have hf := P6.out.fr
  go_wp2_with (skip; rw [← HW7.out]; (refine wpList_store_rowTo rfl _ _ _ rfl rfl w.heap.size _ rfl rfl _ #[.int .i64 0, .int .i64 0, .int .i64 0, .int .i64 0, .int .i64 0, .int .i64 0, .int .i64 0, .int .i64 0, .string ⟨#[]⟩, .int .i64 0, .int .u32 0, .int .i64 0, .int .i64 0, .slice none 0 0] Q7.out (by kernel_rfl) rfl (by simp [Value.oneCell']) ?_))
  rw [HRES.out]
  refine ret14e (m := ⟨4, (sub : Nat), 0, 0, 0, 0, 0, 0, [], ev⟩) (aa := a) (c := c) (sf := ⟨#[]⟩) (rfl) Try.results31 rfl (Q7.out.row _) rfl ?_
  exact ⟨a, c, rfl, R7.out.row hne (by have := HZP.out; have := HLT.out; omega) _, gr_row G7.out (Nat.le_refl _) _, AT7.out.far fun g hg => ⟨⟨by omega, by have := hg.2.1; simpa using this⟩, setRow_other _ _ _ _ (by have := HS2.out; omega)⟩⟩
theorem message_rd (p z : Nat) (s : St) (w : World) (hR : RdW w p z s) :
    Calls Try.prog 31 #[.pointer (some ⟨p, 0, none⟩)] w fun e w' => MsgE p z (msgC s).1 (msgC s).2 w w' e := by
  obtain ⟨k, s1, hk⟩ : ∃ v t, numS 4 s = (v, t) := ⟨_, _, rfl⟩
  have h4 := numS_le 4 s
  rw [hk] at h4
  simp only at h4
  have h : k = 0 ∨ k = 1 ∨ k = 2 ∨ k = 3 ∨ k = 4 := by omega
  rcases h with rfl | rfl | rfl | rfl | rfl
  · exact msg_rd0 p z s s1 hk w hR
  · exact msg_rd1 p z s s1 hk w hR
  · exact msg_rd2 p z s s1 hk w hR
  · exact msg_rd3 p z s s1 hk w hR
  · exact msg_rd4 p z s s1 hk w hR
end Go.Proofs.Ytndgbdbjmogioaa.Wi
