/-
  Contract of event of package wire's reader. All else is left as it was.
-/
import Derived.Test.YtndgbdbjmogioaaWiRdR
import Derived.Test.YtndgbdbjmogioaaWiRow
namespace Go.Proofs.Ytndgbdbjmogioaa.Wi
open Go.RowKit Go.Proofs.Ytndgbdbjmogioaa.Fl
set_option linter.unusedVariables false
set_option linter.unusedSimpArgs false

/-- What a reader of an event tells. -/
def EvE (p z : Nat) (ev : Ev) (s : St) (w w' : World) (e : Ending) : Prop :=
  ∃ a c, e = .returned (.agg #[.int .i64 ev.pub, .int .u32 (ev.seq : Nat), .int .i64 ev.x, .int .i64 ev.y, .slice a ev.attrs.length c]) ∧ RdW w' p z s ∧ w.grownBy w' (some p) ∧ AttsAt w' (fun g => w.heap.size ≤ g ∧ g < w'.heap.size) a ev.attrs
theorem ret5e {s : Nat} {fn : Func} {R : Ending → World → Prop} {a : Act} {V : World} {q : Nat} {u : TypeId} {x0 x1 x2 x3 x4 : Value} (hr : fn.results = #[.cell s 29]) (h2 : a.tmps.getD s undef = .pointer (some ⟨q, 0, none⟩)) (hb : Bq V q u #[x0, x1, x2, x3, x4]) (hd : a.defers = [])
    (hR : R (.returned (.agg #[x0, x1, x2, x3, x4])) V) : bodyPost Try.prog fn R .ret a V := by
  obtain ⟨b0, b1, b2, b3, b4⟩ := hb.c5
  refine bodyPost_ret (v := .agg #[x0, x1, x2, x3, x4]) ?_ hd hR
  rw [Array.getD_eq_getD_getElem?] at h2
  simp [results, hr, go_sem, h2, b0, b1, b2, b3, b4]
/-- So far these attributes were read. -/
def EvCR (p z q0 q1 n : Nat) (w : World) (s : St) (pub : Int) (seq : Nat) (x y : Int) (vi : Value) (wr : World) : Prop :=
  ∃ (k : Nat) (l : List Att) (t : St) (a : Option Addr) (m c : Nat), vi = .int .i64 (k : Nat) ∧ k ≤ n ∧ Hid (l.length = k ∧ attsC n s = (l ++ (attsC (n - k) t).1, (attsC (n - k) t).2) ∧ ∀ v ∈ l, attOk v) ∧ RdW wr p z t ∧ w.grownBy wr (some p) ∧
    Bq wr q0 29 #[.int .i64 0, .int .u32 0, .int .i64 0, .int .i64 0, .slice none 0 0] ∧ Bq wr q1 29 #[.int .i64 pub, .int .u32 (seq : Nat), .int .i64 x, .int .i64 y, .slice a m c] ∧ OA wr (q1 + 1) (.slice a m c) l
theorem new_att (W : World) (x0 x1 x2 x3 : Value) (t : TypeId) : ∀ j u, [x0, x1, x2, x3][j]? = some u → (W.alloc (.cells #[x0, x1, x2, x3] t)).cell? ((⟨W.heap.size, 0, none⟩ : Addr).add j) = some u := by
  intro j u hj
  rw [show ((⟨W.heap.size, 0, none⟩ : Addr).add j) = ⟨W.heap.size, j, none⟩ by unfold Addr.add; split <;> simp_all]
  match j, hj with
  | 0, hj => simp at hj; rw [← hj]; simp [go_sem]
  | 1, hj => simp at hj; rw [← hj]; simp [go_sem]
  | 2, hj => simp at hj; rw [← hj]; simp [go_sem]
  | 3, hj => simp at hj; rw [← hj]; simp [go_sem]
theorem wrap32 {v : Nat} (h : v ≤ 4294967295) : IntKind.u32.wrap (v : Int) = (v : Int) := by rw [IntKind.wrap_u32]; omega
set_option maxHeartbeats 4000000
set_option maxRecDepth 100000
theorem event_rd (p z : Nat) (s : St) (w : World) (hR : RdW w p z s) :
    Calls Try.prog 53 #[.pointer (some ⟨p, 0, none⟩)] w fun e w' => EvE p z (evS' attsC s).1 (evS' attsC s).2 w w' e := by
  obtain ⟨i0, hi, hz0, hz1, hz2⟩ := info_parts infoA
  have HLT := Lib.hid hR.lt
  have HZP := Lib.hid hR.zp
  obtain ⟨pub, s1, h1⟩ : ∃ v t, numS 2147483647 s = (v, t) := ⟨_, _, rfl⟩
  obtain ⟨seq, s2, h2⟩ : ∃ v t, numS 4294967295 s1 = (v, t) := ⟨_, _, rfl⟩
  obtain ⟨x, s3, h3⟩ : ∃ v t, signS s2 = (v, t) := ⟨_, _, rfl⟩
  obtain ⟨y, s4, h4⟩ : ∃ v t, signS s3 = (v, t) := ⟨_, _, rfl⟩
  obtain ⟨n, s5, h5⟩ : ∃ v t, numS 16 s4 = (v, t) := ⟨_, _, rfl⟩
  have hn16 := numS_le 16 s4
  rw [h5] at hn16
  simp only at hn16
  have hseq := numS_le 4294967295 s1
  rw [h2] at hseq
  simp only at hseq
  have HRES := Lib.hid (show evS' attsC s = (⟨(pub : Int), seq, x, y, (attsC n s5).1⟩, (attsC n s5).2) by
    unfold evS' fewS mapS thenS
    simp only [h1, h2, h3, h4, h5])
  obtain ⟨w1, hw1⟩ : ∃ W0 : World, W0 = (w.alloc (.cells #[.int .i64 0, .int .u32 0, .int .i64 0, .int .i64 0, .slice none 0 0] 29)).alloc (.cells #[.int .i64 0, .int .u32 0, .int .i64 0, .int .i64 0, .slice none 0 0] 29) := ⟨_, rfl⟩
  have HW1 := Lib.hid hw1
  have hsz : (w.alloc (.cells #[.int .i64 0, .int .u32 0, .int .i64 0, .int .i64 0, .slice none 0 0] 29)).heap.size = w.heap.size + 1 := by simp
  have G1 := Lib.hid (show w.grownBy w1 (some p) by rw [hw1]; exact gr_al (World.grownBy_alloc _ _ _) _)
  have Q1 := Lib.hid (show Bq w1 w.heap.size 29 #[.int .i64 0, .int .u32 0, .int .i64 0, .int .i64 0, .slice none 0 0] by rw [hw1]; exact (Bq.new _ _ _).alloc _)
  have P1 := Lib.hid (show Bq w1 (w.heap.size + 1) 29 #[.int .i64 0, .int .u32 0, .int .i64 0, .int .i64 0, .slice none 0 0] by rw [hw1, ← hsz]; exact Bq.new _ _ _)
  have R1 := Lib.hid (show RdW w1 p z s by rw [hw1]; exact (hR.alloc _).alloc _)
  have C := whole_rd p z 2147483647 (by omega) s w1 R1.out
  rw [h1] at C
  have HC0 := Lib.hid C
  have H2 := Lib.hid h2
  have H3 := Lib.hid h3
  have H4 := Lib.hid h4
  have H5 := Lib.hid h5
  have HN16 := Lib.hid hn16
  have HU := Lib.hid (wrap32 hseq)
  have hne : ¬ w.heap.size = p := by have := HLT.out; omega
  have hne2 : ¬ w.heap.size + 1 = p := by have := HLT.out; omega
  clear hw1 hR h1 h2 h3 h4 h5 C hsz hn16 hseq
  go_enter Try.func53, Try.ntmps53
  go_wp2_with fail
  rw [← HW1.out]
  refine Calls.mono HC0.out ?_
  rintro e1 w2 ⟨rfl, hr2, hg2⟩
  obtain ⟨w3, hw3⟩ : ∃ W0 : World, W0 = w2.setCell ⟨w.heap.size + 1, 0, none⟩ (.int .i64 (pub : Nat)) := ⟨_, rfl⟩
  have HW3 := Lib.hid hw3
  have P2 := Lib.hid (P1.out.gr hg2 hne2)
  have G3 := Lib.hid (show w.grownBy w3 (some p) by rw [hw3]; exact gr_new (G1.out.trans hg2) (by omega) _ _)
  have Q3 := Lib.hid (show Bq w3 w.heap.size 29 #[.int .i64 0, .int .u32 0, .int .i64 0, .int .i64 0, .slice none 0 0] by rw [hw3]; exact (Q1.out.gr hg2 hne).setO (by omega) _ _)
  have P3 := Lib.hid (show Bq w3 (w.heap.size + 1) 29 #[.int .i64 (pub : Nat), .int .u32 0, .int .i64 0, .int .i64 0, .slice none 0 0] by rw [hw3]; exact P2.out.set 0 _)
  have R3 := Lib.hid (show RdW w3 p z s1 by rw [hw3]; exact hr2.set hne2 (by have := HZP.out; have := HLT.out; omega) _ _)
  have C := number_rd p z 4294967295 (by unfold mx; omega) s1 w3 R3.out
  rw [H2.out] at C
  have HC1 := Lib.hid C
  clear hw3 hr2 hg2 C
  obtain ⟨c0, c1, c2, c3, c4⟩ := P2.out.c5
  have hf := P2.out.fr
  skip
  go_wp2_with fail
  skip
  rw [← HW3.out]
  clear c0 c1 c2 c3 c4 hf
  refine Calls.mono HC1.out ?_
  rintro e1 w4 ⟨rfl, hr4, hg4⟩
  obtain ⟨w5, hw5⟩ : ∃ W0 : World, W0 = w4.setCell ⟨w.heap.size + 1, 1, none⟩ (.int .u32 (seq : Nat)) := ⟨_, rfl⟩
  have HW5 := Lib.hid hw5
  have P4 := Lib.hid (P3.out.gr hg4 hne2)
  have G5 := Lib.hid (show w.grownBy w5 (some p) by rw [hw5]; exact gr_new (G3.out.trans hg4) (by omega) _ _)
  have Q5 := Lib.hid (show Bq w5 w.heap.size 29 #[.int .i64 0, .int .u32 0, .int .i64 0, .int .i64 0, .slice none 0 0] by rw [hw5]; exact (Q3.out.gr hg4 hne).setO (by omega) _ _)
  have P5 := Lib.hid (show Bq w5 (w.heap.size + 1) 29 #[.int .i64 (pub : Nat), .int .u32 (seq : Nat), .int .i64 0, .int .i64 0, .slice none 0 0] by rw [hw5]; exact P4.out.set 1 _)
  have R5 := Lib.hid (show RdW w5 p z s2 by rw [hw5]; exact hr4.set hne2 (by have := HZP.out; have := HLT.out; omega) _ _)
  have C := sign_rd p z s2 w5 R5.out
  rw [H3.out] at C
  have HC2 := Lib.hid C
  clear hw5 hr4 hg4 C
  obtain ⟨c0, c1, c2, c3, c4⟩ := P4.out.c5
  have hf := P4.out.fr
  have hu := HU.out
  go_wp2_with fail
  clear hu
  rw [← HW5.out]
  clear c0 c1 c2 c3 c4 hf
  refine Calls.mono HC2.out ?_
  rintro e1 w6 ⟨rfl, hr6, hg6⟩
  obtain ⟨w7, hw7⟩ : ∃ W0 : World, W0 = w6.setCell ⟨w.heap.size + 1, 2, none⟩ (.int .i64 x) := ⟨_, rfl⟩
  have HW7 := Lib.hid hw7
  have P6 := Lib.hid (P5.out.gr hg6 hne2)
  have G7 := Lib.hid (show w.grownBy w7 (some p) by rw [hw7]; exact gr_new (G5.out.trans hg6) (by omega) _ _)
  have Q7 := Lib.hid (show Bq w7 w.heap.size 29 #[.int .i64 0, .int .u32 0, .int .i64 0, .int .i64 0, .slice none 0 0] by rw [hw7]; exact (Q5.out.gr hg6 hne).setO (by omega) _ _)
  have P7 := Lib.hid (show Bq w7 (w.heap.size + 1) 29 #[.int .i64 (pub : Nat), .int .u32 (seq : Nat), .int .i64 x, .int .i64 0, .slice none 0 0] by rw [hw7]; exact P6.out.set 2 _)
  have R7 := Lib.hid (show RdW w7 p z s3 by rw [hw7]; exact hr6.set hne2 (by have := HZP.out; have := HLT.out; omega) _ _)
  have C := sign_rd p z s3 w7 R7.out
  rw [H4.out] at C
  have HC3 := Lib.hid C
  clear hw7 hr6 hg6 C
  obtain ⟨c0, c1, c2, c3, c4⟩ := P6.out.c5
  have hf := P6.out.fr
  skip
  go_wp2_with fail
  skip
  rw [← HW7.out]
  clear c0 c1 c2 c3 c4 hf
  refine Calls.mono HC3.out ?_
  rintro e1 w8 ⟨rfl, hr8, hg8⟩
  obtain ⟨w9, hw9⟩ : ∃ W0 : World, W0 = w8.setCell ⟨w.heap.size + 1, 3, none⟩ (.int .i64 y) := ⟨_, rfl⟩
  have HW9 := Lib.hid hw9
  have P8 := Lib.hid (P7.out.gr hg8 hne2)
  have G9 := Lib.hid (show w.grownBy w9 (some p) by rw [hw9]; exact gr_new (G7.out.trans hg8) (by omega) _ _)
  have Q9 := Lib.hid (show Bq w9 w.heap.size 29 #[.int .i64 0, .int .u32 0, .int .i64 0, .int .i64 0, .slice none 0 0] by rw [hw9]; exact (Q7.out.gr hg8 hne).setO (by omega) _ _)
  have P9 := Lib.hid (show Bq w9 (w.heap.size + 1) 29 #[.int .i64 (pub : Nat), .int .u32 (seq : Nat), .int .i64 x, .int .i64 y, .slice none 0 0] by rw [hw9]; exact P8.out.set 3 _)
  have R9 := Lib.hid (show RdW w9 p z s4 by rw [hw9]; exact hr8.set hne2 (by have := HZP.out; have := HLT.out; omega) _ _)
  have C := whole_rd p z 16 (by omega) s4 w9 R9.out
  rw [H5.out] at C
  have HC4 := Lib.hid C
  clear hw9 hr8 hg8 C
  obtain ⟨c0, c1, c2, c3, c4⟩ := P8.out.c5
  have hf := P8.out.fr
  skip
  go_wp2_with fail
  skip
  rw [← HW9.out]
  clear c0 c1 c2 c3 c4 hf
  refine Calls.mono HC4.out ?_
  rintro e1 w10 ⟨rfl, hr10, hg10⟩
  have P10 := Lib.hid (P9.out.gr hg10 hne2)
  have Q10 := Lib.hid (Q9.out.gr hg10 hne)
  have G10 := Lib.hid (G9.out.trans hg10)
  have R10 := Lib.hid hr10
  clear hr10 hg10
  go_wp2_with fail
  go_loopw [21] (fun vi wr => EvCR p z w.heap.size (w.heap.size + 1) n w s5 (pub : Nat) seq x y vi wr) (fun vi _ => n - (intOf vi).toNat)
  case atStart => exact ⟨0, [], s5, none, 0, 0, rfl, Nat.zero_le _, Lib.hid ⟨rfl, rfl, by simp⟩, R10.out, G10.out, Q10.out, P10.out, OA.nil _ _⟩
  case round =>
    obtain ⟨k, l, t, a, m, c, rfl, hk, hl, hR, hG, hQ, hP, hO⟩ := hrel
    have HK := Lib.hid hk
    have RR := Lib.hid hR
    have GR := Lib.hid hG
    have QR := Lib.hid hQ
    have PR := Lib.hid hP
    have OR := Lib.hid hO
    have HML := Lib.hid (show m = l.length from (hO.atts hl.out.2.2 (by have := hl.out.1; have := HN16.out; unfold maxLen; omega)).1)
    clear hk hR hG hQ hP hO
    obtain ⟨c0, c1, c2, c3, c4⟩ := PR.out.c5
    have hf := PR.out.fr
    by_cases hlt : k < n
    · have hlz : (k : Int) < (n : Int) := by omega
      have hkz : (k : Int) ≤ 16 := by have := HN16.out; omega
      obtain ⟨at', t2, hat⟩ : ∃ v t2, attS t = (v, t2) := ⟨_, _, rfl⟩
      have C := fun W (h : RdW W p z t) => attr_rd p z t W h
      rw [hat] at C
      have HOK := Lib.hid (show attOk at' by have := attS_ok t; rw [hat] at this; exact this)
      have HL2 := Lib.hid (show (l ++ [at']).length = k + 1 ∧ attsC n s5 = ((l ++ [at']) ++ (attsC (n - (k + 1)) t2).1, (attsC (n - (k + 1)) t2).2) ∧ ∀ v ∈ l ++ [at'], attOk v by
        refine ⟨by rw [List.length_append, hl.out.1]; rfl, ?_, ?_⟩
        · rw [hl.out.2.1, show n - k = (n - (k + 1)) + 1 by omega, attsC_step, hat]
          simp
        · intro v hv
          rcases List.mem_append.1 hv with h | h
          · exact hl.out.2.2 v h
          · rw [List.mem_singleton.1 h]; exact HOK.out)
      obtain ⟨nm, tx, nu, st⟩ := at'
      obtain ⟨sn, e0, hsn⟩ := bs_of2 nm
      obtain ⟨ss, e1, hss⟩ := bs_of2 st
      simp only [e0, e1] at C
      have HCA := Lib.hid (show attC ⟨nm, tx, nu, st⟩ = [.string sn, .bool tx, .int .i64 nu, .string ss] by unfold attC; rw [e0, e1])
      have HC := Lib.hid C
      clear C hat e0 e1 hsn hss
      have HS0 := Lib.hid (show (fun W => (∀ o, W.frozen? ⟨w.heap.size + 1, o, none⟩ = false)) wr.drew from hf)
      have RD := Lib.hid (show RdW wr.drew p z t from RR.out.keep rfl fun _ _ => rfl)
      have GD := Lib.hid (show w.grownBy wr.drew (some p) from ⟨GR.out.os, GR.out.tape, GR.out.output, GR.out.size, GR.out.block⟩)
      have QD := Lib.hid (show Bq wr.drew w.heap.size 29 #[.int .i64 0, .int .u32 0, .int .i64 0, .int .i64 0, .slice none 0 0] from QR.out)
      have PD := Lib.hid (show Bq wr.drew (w.heap.size + 1) 29 #[.int .i64 (pub : Nat), .int .u32 (seq : Nat), .int .i64 x, .int .i64 y, .slice a m c] from PR.out)
      have OD := Lib.hid (show OA wr.drew (w.heap.size + 1 + 1) (.slice a m c) l from OR.out)
      clear c0 c1 c2 c3 c4 hf
      go_wp2_with fail
      refine wp_region_held_drew (S := (fun W => (∀ o, W.frozen? ⟨w.heap.size + 1, o, none⟩ = false))) (by kernel_rfl) HS0.out (fun hHeld => ?_)
      refine wpAnyH_take (i := 0) (v := ?vE0) rfl (by kernel_rfl) (by kernel_rfl) (by kernel_rfl) (fun _ _ _ h => h) (Or.inl ⟨by rfl, ?yE0⟩) hHeld ?rE0
      case yE0 => (intro W hSw; simp only [List.getElem_toArray, List.getElem_cons_succ, List.getElem_cons_zero]; go_simp; try (with_reducible rfl))
      simp only [List.getElem_toArray, List.getElem_cons_succ, List.getElem_cons_zero, Act.put, List.setIfInBounds_toArray, List.set_cons_zero, List.set_cons_succ]
      refine wpAnyH_take (i := 2) (v := ?vE2) rfl (by kernel_rfl) (by kernel_rfl) (by kernel_rfl) (fun _ _ _ h => h) (Or.inl ⟨by rfl, ?yE2⟩) hHeld ?rE2
      case yE2 => (intro W hSw; simp only [List.getElem_toArray, List.getElem_cons_succ, List.getElem_cons_zero]; go_simp; try (with_reducible rfl))
      simp only [List.getElem_toArray, List.getElem_cons_succ, List.getElem_cons_zero, Act.put, List.setIfInBounds_toArray, List.set_cons_zero, List.set_cons_succ]
      refine wpAnyH_ready (rs := [1, 3]) (by kernel_rfl) (by simp) (AllReadyH.cons rfl (fun K hK => ?_) (AllReadyH.cons rfl (fun K hK => ?_) AllReadyH.nil))
      · simp only [List.getElem_toArray, List.getElem_cons_succ, List.getElem_cons_zero]
        obtain ⟨c0, c1, c2, c3, c4⟩ := PD.out.c5
        have hf := PD.out.fr
        go_simp
        clear c0 c1 c2 c3 c4 hf
        refine hK.out _ _ (PD.out.fr) (fun hHeld1 => ?_)
        clear hK K hHeld
        have hHeld := hHeld1; clear hHeld1
        try simp only [List.getElem_toArray, List.getElem_cons_succ, List.getElem_cons_zero, Act.put, List.setIfInBounds_toArray, List.set_cons_zero, List.set_cons_succ]
        refine wpAnyH_ready (rs := [3]) (by kernel_rfl) (by simp) (AllReadyH.cons rfl (fun K hK => ?_) AllReadyH.nil)
        simp only [List.getElem_toArray, List.getElem_cons_succ, List.getElem_cons_zero]
        go_simp
        go_at_call 62
        refine Calls.mono (HC.out _ RD.out) ?_
        rintro e1 wa ⟨rfl, hra, hga⟩
        have GA := Lib.hid (GD.out.trans hga)
        have QA := Lib.hid (QD.out.gr hga hne)
        have PA := Lib.hid (PD.out.gr hga hne2)
        have OA1 := Lib.hid (OD.out.gr hga (by have := HLT.out; omega))
        have RA := Lib.hid hra
        clear hra hga
        try go_wp2_with fail
        refine hK.out _ _ (PA.out.fr) (fun hHeld1 => ?_)
        clear hK K hHeld
        have hHeld := hHeld1; clear hHeld1
        try simp only [List.getElem_toArray, List.getElem_cons_succ, List.getElem_cons_zero, Act.put, List.setIfInBounds_toArray, List.set_cons_zero, List.set_cons_succ]
        refine wpAnyH_ready (rs := [4]) (by kernel_rfl) (by simp) (AllReadyH.cons rfl (fun K hK => ?_) AllReadyH.nil)
        simp only [List.getElem_toArray, List.getElem_cons_succ, List.getElem_cons_zero]
        go_simp
        obtain ⟨wb, hwb⟩ : ∃ W0 : World, W0 = wa.alloc (.cells #[.string sn, .bool tx, .int .i64 nu, .string ss] 50) := ⟨_, rfl⟩
        rw [← hwb]
        have GB := Lib.hid (show w.grownBy wb (some p) by rw [hwb]; exact gr_al GA.out _)
        have QB := Lib.hid (show Bq wb w.heap.size 29 #[.int .i64 0, .int .u32 0, .int .i64 0, .int .i64 0, .slice none 0 0] by rw [hwb]; exact QA.out.alloc _)
        have PB := Lib.hid (show Bq wb (w.heap.size + 1) 29 #[.int .i64 (pub : Nat), .int .u32 (seq : Nat), .int .i64 x, .int .i64 y, .slice a m c] by rw [hwb]; exact PA.out.alloc _)
        have OB1 := Lib.hid (show OA wb (w.heap.size + 1 + 1) (.slice a m c) l by rw [hwb]; exact OA1.out.keep fun g e => Below.heap_alloc _ _ _ (OA1.out.lt e).2)
        have RB := Lib.hid (show RdW wb p z t2 by rw [hwb]; exact RA.out.alloc _)
        have NB := Lib.hid (show ∀ j u, [Value.string sn, .bool tx, .int .i64 nu, .string ss][j]? = some u → wb.cell? ((⟨wa.heap.size, 0, none⟩ : Addr).add j) = some u by rw [hwb]; exact new_att wa _ _ _ _ _)
        have HZB := Lib.hid (show w.heap.size + 1 + 1 ≤ wb.heap.size by have := PB.out.lt; omega)
        clear hwb
        refine hK.out _ _ (PB.out.fr) (fun hHeld1 => ?_)
        clear hK K hHeld
        have hHeld := hHeld1; clear hHeld1
        try simp only [List.getElem_toArray, List.getElem_cons_succ, List.getElem_cons_zero, Act.put, List.setIfInBounds_toArray, List.set_cons_zero, List.set_cons_succ]
        refine wpAnyH_ready (rs := [5]) (by kernel_rfl) (by simp) (AllReadyH.cons rfl (fun K hK => ?_) AllReadyH.nil)
        simp only [List.getElem_toArray, List.getElem_cons_succ, List.getElem_cons_zero]
        refine wp_append_lies wb (.tmp 24) (.tmp 27) 27 rfl (w.heap.size + 1 + 1) 50 i0 (.agg #[.string ⟨#[]⟩, .bool false, .int .i64 0, .string ⟨#[]⟩]) 4 48 Try.underlying27 hi hz0 hz1 hz2 rfl (by decide) (.slice a m c) _ _ rfl OB1.out ⟨wa.heap.size, 0, none⟩ 1 1 [.string sn, .bool tx, .int .i64 nu, .string ss] rfl rfl NB.out (by intro u hu; simp at hu; rcases hu with rfl | rfl | rfl | rfl <;> rfl) (by decide) (by have := hl.out.1; have := HN16.out; unfold maxLen; omega) (by have := hl.out.1; have := HN16.out; omega) HZB.out wb.heap.size rfl ?_
        intro gq cap wc hoc hgc hatc hltc
        have hown : ∀ k, (Value.slice a m c).ownBlock = some k → w.heap.size + 1 + 1 ≤ k ∧ k < wb.heap.size := fun k hk => OB1.out.lt hk
        have hkeep : ∀ k, k < w.heap.size + 1 + 1 → wc.heap[k]? = wb.heap[k]? := fun k hk => hgc.block k (by have := HZB.out; omega) (fun e => by have := (hown k e.symm).1; omega)
        have GC := Lib.hid (show w.grownBy wc (some p) from ⟨hgc.os.trans GB.out.os, hgc.tape.trans GB.out.tape, hgc.output.trans GB.out.output, Nat.le_trans GB.out.size hgc.size, fun k hk hne' => (hkeep k (by omega)).trans (GB.out.block k hk hne')⟩)
        have QC := Lib.hid (show Bq wc w.heap.size 29 #[.int .i64 0, .int .u32 0, .int .i64 0, .int .i64 0, .slice none 0 0] from (hkeep _ (by omega)).trans QB.out)
        have PC := Lib.hid (show Bq wc (w.heap.size + 1) 29 #[.int .i64 (pub : Nat), .int .u32 (seq : Nat), .int .i64 x, .int .i64 y, .slice a m c] from (hkeep _ (by omega)).trans PB.out)
        have RC := Lib.hid (show RdW wc p z t2 from RB.out.keep (hkeep _ (by have := HLT.out; omega)) fun g hg => hkeep g (by have := HLT.out; have := HZP.out; omega))
        have OC := Lib.hid (show OA wc (w.heap.size + 1 + 1) (.slice (some ⟨gq, 0, none⟩) (l.length + 1) cap) (l ++ [⟨nm, tx, nu, st⟩]) by
          unfold OA
          rw [attCs_app, List.length_append, show attCs [⟨nm, tx, nu, st⟩] = [.string sn, .bool tx, .int .i64 nu, .string ss] by unfold attCs; simp only [List.flatMap_cons, List.flatMap_nil, List.append_nil]; exact HCA.out]
          exact hoc)
        clear hoc hgc hatc hltc hown hkeep
        refine hK.out _ _ (PC.out.fr) (fun hHeld1 => ?_)
        clear hK K hHeld
        have hHeld := hHeld1; clear hHeld1
        try simp only [List.getElem_toArray, List.getElem_cons_succ, List.getElem_cons_zero, Act.put, List.setIfInBounds_toArray, List.set_cons_zero, List.set_cons_succ]
        refine wpAnyH_take (i := 6) (v := ?vE00006) rfl (by kernel_rfl) (by kernel_rfl) (by kernel_rfl) (fun _ _ _ h => h) (Or.inl ⟨by rfl, ?yE00006⟩) hHeld ?rE00006
        case yE00006 => (intro W hSw; simp only [List.getElem_toArray, List.getElem_cons_succ, List.getElem_cons_zero]; go_simp; try (with_reducible rfl))
        simp only [List.getElem_toArray, List.getElem_cons_succ, List.getElem_cons_zero, Act.put, List.setIfInBounds_toArray, List.set_cons_zero, List.set_cons_succ]
        refine wpAnyH_ready (rs := [7]) (by kernel_rfl) (by simp) (AllReadyH.cons rfl (fun K hK => ?_) AllReadyH.nil)
        simp only [List.getElem_toArray, List.getElem_cons_succ, List.getElem_cons_zero]
        obtain ⟨c0, c1, c2, c3, c4⟩ := PC.out.c5
        have hf := PC.out.fr
        go_simp
        obtain ⟨wd, hwd⟩ : ∃ W0 : World, W0 = wc.setCell ⟨w.heap.size + 1, 4, none⟩ (.slice (some ⟨gq, 0, none⟩) (l.length + 1) cap) := ⟨_, rfl⟩
        have GD2 := Lib.hid (show w.grownBy wd (some p) by rw [hwd]; exact gr_new GC.out (by omega) _ _)
        have QD2 := Lib.hid (show Bq wd w.heap.size 29 #[.int .i64 0, .int .u32 0, .int .i64 0, .int .i64 0, .slice none 0 0] by rw [hwd]; exact QC.out.setO (by omega) _ _)
        have PD2 := Lib.hid (show Bq wd (w.heap.size + 1) 29 #[.int .i64 (pub : Nat), .int .u32 (seq : Nat), .int .i64 x, .int .i64 y, .slice (some ⟨gq, 0, none⟩) (l.length + 1) cap] by rw [hwd]; exact PC.out.set 4 _)
        have RD2 := Lib.hid (show RdW wd p z t2 by rw [hwd]; exact RC.out.set hne2 (by have := HZP.out; have := HLT.out; omega) _ _)
        have OD2 := Lib.hid (show OA wd (w.heap.size + 1 + 1) (.slice (some ⟨gq, 0, none⟩) (l.length + 1) cap) (l ++ [⟨nm, tx, nu, st⟩]) by rw [hwd]; exact OC.out.keep fun g e => Below.heap_setCell _ _ _ _ (by have := (OC.out.lt e).1; show g ≠ w.heap.size + 1; omega))
        rw [← hwd]
        clear hwd c0 c1 c2 c3 c4 hf
        refine hK.out _ _ (PD2.out.fr) (fun hHeld1 => ?_)
        clear hK K hHeld
        have hHeld := hHeld1; clear hHeld1
        try simp only [List.getElem_toArray, List.getElem_cons_succ, List.getElem_cons_zero, Act.put, List.setIfInBounds_toArray, List.set_cons_zero, List.set_cons_succ]
        refine wpAnyH_done (by kernel_rfl) ?_ _
        clear hHeld
        go_wp2_with fail
        go_roundw
        case rel => exact ⟨k + 1, l ++ [⟨nm, tx, nu, st⟩], t2, some ⟨gq, 0, none⟩, l.length + 1, cap, by go_num, by omega, HL2, RD2.out, GD2.out, QD2.out, PD2.out, OD2.out⟩
        case measure => simp [intOf]; omega
      · simp only [List.getElem_toArray, List.getElem_cons_succ, List.getElem_cons_zero]
        go_simp
        go_at_call 62
        refine Calls.mono (HC.out _ RD.out) ?_
        rintro e1 wa ⟨rfl, hra, hga⟩
        have GA := Lib.hid (GD.out.trans hga)
        have QA := Lib.hid (QD.out.gr hga hne)
        have PA := Lib.hid (PD.out.gr hga hne2)
        have OA1 := Lib.hid (OD.out.gr hga (by have := HLT.out; omega))
        have RA := Lib.hid hra
        clear hra hga
        try go_wp2_with fail
        refine hK.out _ _ (PA.out.fr) (fun hHeld1 => ?_)
        clear hK K hHeld
        have hHeld := hHeld1; clear hHeld1
        try simp only [List.getElem_toArray, List.getElem_cons_succ, List.getElem_cons_zero, Act.put, List.setIfInBounds_toArray, List.set_cons_zero, List.set_cons_succ]
        refine wpAnyH_ready (rs := [1, 4]) (by kernel_rfl) (by simp) (AllReadyH.cons rfl (fun K hK => ?_) (AllReadyH.cons rfl (fun K hK => ?_) AllReadyH.nil))
        · simp only [List.getElem_toArray, List.getElem_cons_succ, List.getElem_cons_zero]
          obtain ⟨c0, c1, c2, c3, c4⟩ := PA.out.c5
          have hf := PA.out.fr
          go_simp
          clear c0 c1 c2 c3 c4 hf
          refine hK.out _ _ (PA.out.fr) (fun hHeld1 => ?_)
          clear hK K hHeld
          have hHeld := hHeld1; clear hHeld1
          try simp only [List.getElem_toArray, List.getElem_cons_succ, List.getElem_cons_zero, Act.put, List.setIfInBounds_toArray, List.set_cons_zero, List.set_cons_succ]
          refine wpAnyH_ready (rs := [4]) (by kernel_rfl) (by simp) (AllReadyH.cons rfl (fun K hK => ?_) AllReadyH.nil)
          simp only [List.getElem_toArray, List.getElem_cons_succ, List.getElem_cons_zero]
          go_simp
          obtain ⟨wb, hwb⟩ : ∃ W0 : World, W0 = wa.alloc (.cells #[.string sn, .bool tx, .int .i64 nu, .string ss] 50) := ⟨_, rfl⟩
          rw [← hwb]
          have GB := Lib.hid (show w.grownBy wb (some p) by rw [hwb]; exact gr_al GA.out _)
          have QB := Lib.hid (show Bq wb w.heap.size 29 #[.int .i64 0, .int .u32 0, .int .i64 0, .int .i64 0, .slice none 0 0] by rw [hwb]; exact QA.out.alloc _)
          have PB := Lib.hid (show Bq wb (w.heap.size + 1) 29 #[.int .i64 (pub : Nat), .int .u32 (seq : Nat), .int .i64 x, .int .i64 y, .slice a m c] by rw [hwb]; exact PA.out.alloc _)
          have OB1 := Lib.hid (show OA wb (w.heap.size + 1 + 1) (.slice a m c) l by rw [hwb]; exact OA1.out.keep fun g e => Below.heap_alloc _ _ _ (OA1.out.lt e).2)
          have RB := Lib.hid (show RdW wb p z t2 by rw [hwb]; exact RA.out.alloc _)
          have NB := Lib.hid (show ∀ j u, [Value.string sn, .bool tx, .int .i64 nu, .string ss][j]? = some u → wb.cell? ((⟨wa.heap.size, 0, none⟩ : Addr).add j) = some u by rw [hwb]; exact new_att wa _ _ _ _ _)
          have HZB := Lib.hid (show w.heap.size + 1 + 1 ≤ wb.heap.size by have := PB.out.lt; omega)
          clear hwb
          refine hK.out _ _ (PB.out.fr) (fun hHeld1 => ?_)
          clear hK K hHeld
          have hHeld := hHeld1; clear hHeld1
          try simp only [List.getElem_toArray, List.getElem_cons_succ, List.getElem_cons_zero, Act.put, List.setIfInBounds_toArray, List.set_cons_zero, List.set_cons_succ]
          refine wpAnyH_ready (rs := [5]) (by kernel_rfl) (by simp) (AllReadyH.cons rfl (fun K hK => ?_) AllReadyH.nil)
          simp only [List.getElem_toArray, List.getElem_cons_succ, List.getElem_cons_zero]
          refine wp_append_lies wb (.tmp 24) (.tmp 27) 27 rfl (w.heap.size + 1 + 1) 50 i0 (.agg #[.string ⟨#[]⟩, .bool false, .int .i64 0, .string ⟨#[]⟩]) 4 48 Try.underlying27 hi hz0 hz1 hz2 rfl (by decide) (.slice a m c) _ _ rfl OB1.out ⟨wa.heap.size, 0, none⟩ 1 1 [.string sn, .bool tx, .int .i64 nu, .string ss] rfl rfl NB.out (by intro u hu; simp at hu; rcases hu with rfl | rfl | rfl | rfl <;> rfl) (by decide) (by have := hl.out.1; have := HN16.out; unfold maxLen; omega) (by have := hl.out.1; have := HN16.out; omega) HZB.out wb.heap.size rfl ?_
          intro gq cap wc hoc hgc hatc hltc
          have hown : ∀ k, (Value.slice a m c).ownBlock = some k → w.heap.size + 1 + 1 ≤ k ∧ k < wb.heap.size := fun k hk => OB1.out.lt hk
          have hkeep : ∀ k, k < w.heap.size + 1 + 1 → wc.heap[k]? = wb.heap[k]? := fun k hk => hgc.block k (by have := HZB.out; omega) (fun e => by have := (hown k e.symm).1; omega)
          have GC := Lib.hid (show w.grownBy wc (some p) from ⟨hgc.os.trans GB.out.os, hgc.tape.trans GB.out.tape, hgc.output.trans GB.out.output, Nat.le_trans GB.out.size hgc.size, fun k hk hne' => (hkeep k (by omega)).trans (GB.out.block k hk hne')⟩)
          have QC := Lib.hid (show Bq wc w.heap.size 29 #[.int .i64 0, .int .u32 0, .int .i64 0, .int .i64 0, .slice none 0 0] from (hkeep _ (by omega)).trans QB.out)
          have PC := Lib.hid (show Bq wc (w.heap.size + 1) 29 #[.int .i64 (pub : Nat), .int .u32 (seq : Nat), .int .i64 x, .int .i64 y, .slice a m c] from (hkeep _ (by omega)).trans PB.out)
          have RC := Lib.hid (show RdW wc p z t2 from RB.out.keep (hkeep _ (by have := HLT.out; omega)) fun g hg => hkeep g (by have := HLT.out; have := HZP.out; omega))
          have OC := Lib.hid (show OA wc (w.heap.size + 1 + 1) (.slice (some ⟨gq, 0, none⟩) (l.length + 1) cap) (l ++ [⟨nm, tx, nu, st⟩]) by
            unfold OA
            rw [attCs_app, List.length_append, show attCs [⟨nm, tx, nu, st⟩] = [.string sn, .bool tx, .int .i64 nu, .string ss] by unfold attCs; simp only [List.flatMap_cons, List.flatMap_nil, List.append_nil]; exact HCA.out]
            exact hoc)
          clear hoc hgc hatc hltc hown hkeep
          refine hK.out _ _ (PC.out.fr) (fun hHeld1 => ?_)
          clear hK K hHeld
          have hHeld := hHeld1; clear hHeld1
          try simp only [List.getElem_toArray, List.getElem_cons_succ, List.getElem_cons_zero, Act.put, List.setIfInBounds_toArray, List.set_cons_zero, List.set_cons_succ]
          refine wpAnyH_take (i := 6) (v := ?vE10006) rfl (by kernel_rfl) (by kernel_rfl) (by kernel_rfl) (fun _ _ _ h => h) (Or.inl ⟨by rfl, ?yE10006⟩) hHeld ?rE10006
          case yE10006 => (intro W hSw; simp only [List.getElem_toArray, List.getElem_cons_succ, List.getElem_cons_zero]; go_simp; try (with_reducible rfl))
          simp only [List.getElem_toArray, List.getElem_cons_succ, List.getElem_cons_zero, Act.put, List.setIfInBounds_toArray, List.set_cons_zero, List.set_cons_succ]
          refine wpAnyH_ready (rs := [7]) (by kernel_rfl) (by simp) (AllReadyH.cons rfl (fun K hK => ?_) AllReadyH.nil)
          simp only [List.getElem_toArray, List.getElem_cons_succ, List.getElem_cons_zero]
          obtain ⟨c0, c1, c2, c3, c4⟩ := PC.out.c5
          have hf := PC.out.fr
          go_simp
          obtain ⟨wd, hwd⟩ : ∃ W0 : World, W0 = wc.setCell ⟨w.heap.size + 1, 4, none⟩ (.slice (some ⟨gq, 0, none⟩) (l.length + 1) cap) := ⟨_, rfl⟩
          have GD2 := Lib.hid (show w.grownBy wd (some p) by rw [hwd]; exact gr_new GC.out (by omega) _ _)
          have QD2 := Lib.hid (show Bq wd w.heap.size 29 #[.int .i64 0, .int .u32 0, .int .i64 0, .int .i64 0, .slice none 0 0] by rw [hwd]; exact QC.out.setO (by omega) _ _)
          have PD2 := Lib.hid (show Bq wd (w.heap.size + 1) 29 #[.int .i64 (pub : Nat), .int .u32 (seq : Nat), .int .i64 x, .int .i64 y, .slice (some ⟨gq, 0, none⟩) (l.length + 1) cap] by rw [hwd]; exact PC.out.set 4 _)
          have RD2 := Lib.hid (show RdW wd p z t2 by rw [hwd]; exact RC.out.set hne2 (by have := HZP.out; have := HLT.out; omega) _ _)
          have OD2 := Lib.hid (show OA wd (w.heap.size + 1 + 1) (.slice (some ⟨gq, 0, none⟩) (l.length + 1) cap) (l ++ [⟨nm, tx, nu, st⟩]) by rw [hwd]; exact OC.out.keep fun g e => Below.heap_setCell _ _ _ _ (by have := (OC.out.lt e).1; show g ≠ w.heap.size + 1; omega))
          rw [← hwd]
          clear hwd c0 c1 c2 c3 c4 hf
          refine hK.out _ _ (PD2.out.fr) (fun hHeld1 => ?_)
          clear hK K hHeld
          have hHeld := hHeld1; clear hHeld1
          try simp only [List.getElem_toArray, List.getElem_cons_succ, List.getElem_cons_zero, Act.put, List.setIfInBounds_toArray, List.set_cons_zero, List.set_cons_succ]
          refine wpAnyH_done (by kernel_rfl) ?_ _
          clear hHeld
          go_wp2_with fail
          go_roundw
          case rel => exact ⟨k + 1, l ++ [⟨nm, tx, nu, st⟩], t2, some ⟨gq, 0, none⟩, l.length + 1, cap, by go_num, by omega, HL2, RD2.out, GD2.out, QD2.out, PD2.out, OD2.out⟩
          case measure => simp [intOf]; omega
        · simp only [List.getElem_toArray, List.getElem_cons_succ, List.getElem_cons_zero]
          go_simp
          obtain ⟨wb, hwb⟩ : ∃ W0 : World, W0 = wa.alloc (.cells #[.string sn, .bool tx, .int .i64 nu, .string ss] 50) := ⟨_, rfl⟩
          rw [← hwb]
          have GB := Lib.hid (show w.grownBy wb (some p) by rw [hwb]; exact gr_al GA.out _)
          have QB := Lib.hid (show Bq wb w.heap.size 29 #[.int .i64 0, .int .u32 0, .int .i64 0, .int .i64 0, .slice none 0 0] by rw [hwb]; exact QA.out.alloc _)
          have PB := Lib.hid (show Bq wb (w.heap.size + 1) 29 #[.int .i64 (pub : Nat), .int .u32 (seq : Nat), .int .i64 x, .int .i64 y, .slice a m c] by rw [hwb]; exact PA.out.alloc _)
          have OB1 := Lib.hid (show OA wb (w.heap.size + 1 + 1) (.slice a m c) l by rw [hwb]; exact OA1.out.keep fun g e => Below.heap_alloc _ _ _ (OA1.out.lt e).2)
          have RB := Lib.hid (show RdW wb p z t2 by rw [hwb]; exact RA.out.alloc _)
          have NB := Lib.hid (show ∀ j u, [Value.string sn, .bool tx, .int .i64 nu, .string ss][j]? = some u → wb.cell? ((⟨wa.heap.size, 0, none⟩ : Addr).add j) = some u by rw [hwb]; exact new_att wa _ _ _ _ _)
          have HZB := Lib.hid (show w.heap.size + 1 + 1 ≤ wb.heap.size by have := PB.out.lt; omega)
          clear hwb
          refine hK.out _ _ (PB.out.fr) (fun hHeld1 => ?_)
          clear hK K hHeld
          have hHeld := hHeld1; clear hHeld1
          try simp only [List.getElem_toArray, List.getElem_cons_succ, List.getElem_cons_zero, Act.put, List.setIfInBounds_toArray, List.set_cons_zero, List.set_cons_succ]
          refine wpAnyH_ready (rs := [1]) (by kernel_rfl) (by simp) (AllReadyH.cons rfl (fun K hK => ?_) AllReadyH.nil)
          simp only [List.getElem_toArray, List.getElem_cons_succ, List.getElem_cons_zero]
          obtain ⟨c0, c1, c2, c3, c4⟩ := PB.out.c5
          have hf := PB.out.fr
          go_simp
          clear c0 c1 c2 c3 c4 hf
          refine hK.out _ _ (PB.out.fr) (fun hHeld1 => ?_)
          clear hK K hHeld
          have hHeld := hHeld1; clear hHeld1
          try simp only [List.getElem_toArray, List.getElem_cons_succ, List.getElem_cons_zero, Act.put, List.setIfInBounds_toArray, List.set_cons_zero, List.set_cons_succ]
          refine wpAnyH_ready (rs := [5]) (by kernel_rfl) (by simp) (AllReadyH.cons rfl (fun K hK => ?_) AllReadyH.nil)
          simp only [List.getElem_toArray, List.getElem_cons_succ, List.getElem_cons_zero]
          refine wp_append_lies wb (.tmp 24) (.tmp 27) 27 rfl (w.heap.size + 1 + 1) 50 i0 (.agg #[.string ⟨#[]⟩, .bool false, .int .i64 0, .string ⟨#[]⟩]) 4 48 Try.underlying27 hi hz0 hz1 hz2 rfl (by decide) (.slice a m c) _ _ rfl OB1.out ⟨wa.heap.size, 0, none⟩ 1 1 [.string sn, .bool tx, .int .i64 nu, .string ss] rfl rfl NB.out (by intro u hu; simp at hu; rcases hu with rfl | rfl | rfl | rfl <;> rfl) (by decide) (by have := hl.out.1; have := HN16.out; unfold maxLen; omega) (by have := hl.out.1; have := HN16.out; omega) HZB.out wb.heap.size rfl ?_
          intro gq cap wc hoc hgc hatc hltc
          have hown : ∀ k, (Value.slice a m c).ownBlock = some k → w.heap.size + 1 + 1 ≤ k ∧ k < wb.heap.size := fun k hk => OB1.out.lt hk
          have hkeep : ∀ k, k < w.heap.size + 1 + 1 → wc.heap[k]? = wb.heap[k]? := fun k hk => hgc.block k (by have := HZB.out; omega) (fun e => by have := (hown k e.symm).1; omega)
          have GC := Lib.hid (show w.grownBy wc (some p) from ⟨hgc.os.trans GB.out.os, hgc.tape.trans GB.out.tape, hgc.output.trans GB.out.output, Nat.le_trans GB.out.size hgc.size, fun k hk hne' => (hkeep k (by omega)).trans (GB.out.block k hk hne')⟩)
          have QC := Lib.hid (show Bq wc w.heap.size 29 #[.int .i64 0, .int .u32 0, .int .i64 0, .int .i64 0, .slice none 0 0] from (hkeep _ (by omega)).trans QB.out)
          have PC := Lib.hid (show Bq wc (w.heap.size + 1) 29 #[.int .i64 (pub : Nat), .int .u32 (seq : Nat), .int .i64 x, .int .i64 y, .slice a m c] from (hkeep _ (by omega)).trans PB.out)
          have RC := Lib.hid (show RdW wc p z t2 from RB.out.keep (hkeep _ (by have := HLT.out; omega)) fun g hg => hkeep g (by have := HLT.out; have := HZP.out; omega))
          have OC := Lib.hid (show OA wc (w.heap.size + 1 + 1) (.slice (some ⟨gq, 0, none⟩) (l.length + 1) cap) (l ++ [⟨nm, tx, nu, st⟩]) by
            unfold OA
            rw [attCs_app, List.length_append, show attCs [⟨nm, tx, nu, st⟩] = [.string sn, .bool tx, .int .i64 nu, .string ss] by unfold attCs; simp only [List.flatMap_cons, List.flatMap_nil, List.append_nil]; exact HCA.out]
            exact hoc)
          clear hoc hgc hatc hltc hown hkeep
          refine hK.out _ _ (PC.out.fr) (fun hHeld1 => ?_)
          clear hK K hHeld
          have hHeld := hHeld1; clear hHeld1
          try simp only [List.getElem_toArray, List.getElem_cons_succ, List.getElem_cons_zero, Act.put, List.setIfInBounds_toArray, List.set_cons_zero, List.set_cons_succ]
          refine wpAnyH_take (i := 6) (v := ?vE11006) rfl (by kernel_rfl) (by kernel_rfl) (by kernel_rfl) (fun _ _ _ h => h) (Or.inl ⟨by rfl, ?yE11006⟩) hHeld ?rE11006
          case yE11006 => (intro W hSw; simp only [List.getElem_toArray, List.getElem_cons_succ, List.getElem_cons_zero]; go_simp; try (with_reducible rfl))
          simp only [List.getElem_toArray, List.getElem_cons_succ, List.getElem_cons_zero, Act.put, List.setIfInBounds_toArray, List.set_cons_zero, List.set_cons_succ]
          refine wpAnyH_ready (rs := [7]) (by kernel_rfl) (by simp) (AllReadyH.cons rfl (fun K hK => ?_) AllReadyH.nil)
          simp only [List.getElem_toArray, List.getElem_cons_succ, List.getElem_cons_zero]
          obtain ⟨c0, c1, c2, c3, c4⟩ := PC.out.c5
          have hf := PC.out.fr
          go_simp
          obtain ⟨wd, hwd⟩ : ∃ W0 : World, W0 = wc.setCell ⟨w.heap.size + 1, 4, none⟩ (.slice (some ⟨gq, 0, none⟩) (l.length + 1) cap) := ⟨_, rfl⟩
          have GD2 := Lib.hid (show w.grownBy wd (some p) by rw [hwd]; exact gr_new GC.out (by omega) _ _)
          have QD2 := Lib.hid (show Bq wd w.heap.size 29 #[.int .i64 0, .int .u32 0, .int .i64 0, .int .i64 0, .slice none 0 0] by rw [hwd]; exact QC.out.setO (by omega) _ _)
          have PD2 := Lib.hid (show Bq wd (w.heap.size + 1) 29 #[.int .i64 (pub : Nat), .int .u32 (seq : Nat), .int .i64 x, .int .i64 y, .slice (some ⟨gq, 0, none⟩) (l.length + 1) cap] by rw [hwd]; exact PC.out.set 4 _)
          have RD2 := Lib.hid (show RdW wd p z t2 by rw [hwd]; exact RC.out.set hne2 (by have := HZP.out; have := HLT.out; omega) _ _)
          have OD2 := Lib.hid (show OA wd (w.heap.size + 1 + 1) (.slice (some ⟨gq, 0, none⟩) (l.length + 1) cap) (l ++ [⟨nm, tx, nu, st⟩]) by rw [hwd]; exact OC.out.keep fun g e => Below.heap_setCell _ _ _ _ (by have := (OC.out.lt e).1; show g ≠ w.heap.size + 1; omega))
          rw [← hwd]
          clear hwd c0 c1 c2 c3 c4 hf
          refine hK.out _ _ (PD2.out.fr) (fun hHeld1 => ?_)
          clear hK K hHeld
          have hHeld := hHeld1; clear hHeld1
          try simp only [List.getElem_toArray, List.getElem_cons_succ, List.getElem_cons_zero, Act.put, List.setIfInBounds_toArray, List.set_cons_zero, List.set_cons_succ]
          refine wpAnyH_done (by kernel_rfl) ?_ _
          clear hHeld
          go_wp2_with fail
          go_roundw
          case rel => exact ⟨k + 1, l ++ [⟨nm, tx, nu, st⟩], t2, some ⟨gq, 0, none⟩, l.length + 1, cap, by go_num, by omega, HL2, RD2.out, GD2.out, QD2.out, PD2.out, OD2.out⟩
          case measure => simp [intOf]; omega
    · have hlz : ¬ (k : Int) < (n : Int) := by omega
      have hkn : k = n := by have := HK.out; omega
      have HAT := Lib.hid (OR.out.atts hl.out.2.2 (by have := hl.out.1; have := HN16.out; have := HK.out; unfold maxLen; omega))
      have HEND := Lib.hid (show attsC n s5 = (l, t) by
        have h := hl.out.2.1
        rw [hkn, Nat.sub_self] at h
        simpa [attsC] using h)
      clear hkn
      go_wp2_with (skip; (refine wpList_store_rowTo rfl _ _ _ rfl rfl w.heap.size _ rfl rfl _ #[.int .i64 0, .int .u32 0, .int .i64 0, .int .i64 0, .slice none 0 0] QR.out (by kernel_rfl) rfl (by simp [Value.oneCell']) ?_))
      refine ret5e Try.results53 rfl (QR.out.row _) rfl ?_
      rw [HRES.out, HEND.out]
      refine ⟨a, c, by simp only; rw [HML.out], RR.out.row hne (by have := HZP.out; have := HLT.out; omega) _, gr_row GR.out (Nat.le_refl _) _, ?_⟩
      exact HAT.out.2.far fun g hg => ⟨⟨by omega, by have := hg.2; simpa using this⟩, setRow_other _ _ _ _ (by omega)⟩
end Go.Proofs.Ytndgbdbjmogioaa.Wi
