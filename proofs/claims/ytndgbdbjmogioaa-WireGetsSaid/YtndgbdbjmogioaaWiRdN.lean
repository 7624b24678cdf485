/-
  Contracts of number, whole and signed of package wire's reader. All else is left as it was.
-/
import Derived.Test.YtndgbdbjmogioaaWiFst
import Derived.Lib.Zigzag
namespace Go.Proofs.Ytndgbdbjmogioaa.Wi
open Go.RowKit Go.Proofs.Ytndgbdbjmogioaa.Fl
set_option linter.unusedVariables false
set_option linter.unusedSimpArgs false

theorem rd_most (most : Nat) (hm : most ≤ mx) : ∀ (l : List UInt8) (k u : Nat), k ≤ 9 → u < 128 ^ k → rdN most k u l = match rdN mx k u l with | .bad n => .bad n | .got v r => if most < v then .bad 7 else .got v r
  | [], k, u, _, _ => rfl
  | x :: r, k, u, hk, hu => by
    by_cases h : k = 9 ∧ x.toNat ≠ 1 ∨ 0 < k ∧ x.toNat = 0
    · rw [rd_bad h hk, rdN]
      by_cases h1 : k = 9 ∧ 1 < x.toNat
      · rw [if_pos h1]
      · rw [if_neg h1, if_neg (by omega), if_pos (by left; omega)]
    · by_cases hx : x.toNat < 128
      · rw [(rd_last h hk hu hx).1, rdN, if_neg (by omega), if_neg (by omega)]
        by_cases hv : most < u + 128 ^ k * (x.toNat % 128)
        · rw [if_pos (Or.inr hv)]
          simp only [if_pos hv]
        · rw [if_neg (by rintro (h1 | h1) <;> omega)]
          simp only [if_neg hv]
      · have h2 := rd_more (r := r) h hk hu hx
        rw [h2.1, rdN, if_neg (by omega), if_pos (by omega)]
        exact rd_most most hm r (k + 1) _ h2.2.1 h2.2.2.1
theorem rd_rest {most : Nat} {l r : List UInt8} {v : Nat} (h : rdN most 0 0 l = .got v r) : l.length - r.length ≤ l.length ∧ l.drop (l.length - r.length) = r ∧ r.length ≤ l.length := by
  obtain ⟨n, -, hl, -⟩ := (rdN_forth most _ _ _ _ _ h).2
  rw [hl, List.length_append]
  refine ⟨by omega, ?_, by omega⟩
  rw [Nat.add_sub_cancel, List.drop_left]
set_option maxHeartbeats 2000000
set_option maxRecDepth 100000
theorem number_rd (p z most : Nat) (hmost : most ≤ mx) (s : St) (w : World) (hR : RdW w p z s) :
    Calls Try.prog 60 #[.pointer (some ⟨p, 0, none⟩), .int .u64 (most : Nat)] w fun e w' => RdE p z (.int .u64 ((numS most s).1 : Nat)) (numS most s).2 w w' e := by
  obtain ⟨e, l⟩ := s
  have HR := Lib.hid hR
  obtain ⟨a, c, h1, h2, h3, h4⟩ := hR
  simp only at h1 h2 h3
  have H1 := Lib.hid h1
  have H2 := Lib.hid h2
  have H3 := Lib.hid h3
  have H4 := Lib.hid h4
  obtain ⟨c0, c1, f0, f1⟩ := rd_cells h1
  have hlt : p < w.heap.size := (Array.getElem?_eq_some_iff.1 h1).1
  have HLT := Lib.hid hlt
  have HM := Lib.hid hmost
  clear h1 h2 h3 h4 hmost hlt
  by_cases he : e = 0
  · subst he
    rw [show errW 0 = .nilIface from rfl] at c1
    have HNUM := Lib.hid (show numS most (0, l) = match rdN mx 0 0 l with | .bad n => (0, (n, l)) | .got v r => if most < v then (0, (7, l)) else (v, (0, r)) by
      unfold numS
      rw [if_pos rfl]
      simp only
      rw [rd_most most HM.out l 0 0 (by omega) (by simp)]
      cases rdN mx 0 0 l with
      | bad n => rfl
      | got v r => by_cases hv : most < v <;> simp [hv])
    have q1 := neq_nil
    have C := first_any a c l w H3.out
    cases hres : rdN mx 0 0 l with
    | bad n =>
      rw [hres] at C HNUM
      have HN := Lib.hid (show numS most (0, l) = (0, (n, l)) from HNUM.out)
      have hn0 : n ≠ 0 := by rcases rdN_bads mx l 0 0 n hres with h | h <;> omega
      have CF := Lib.hid (fail_any p z n hn0 (0, l) w HR.out)
      simp only [fstV] at C
      have HC := Lib.hid C
      have q2 := Cn.nil_no (n : Int)
      have q3 := neq_err (n : Int)
      clear C hres hn0
      rw [HN.out]
      go_enter Try.func60, Try.ntmps60
      go_wp2_with fail
      refine Calls.mono HC.out ?_
      rintro x w2 ⟨rfl, rfl⟩
      go_wp2_with fail
      refine Calls.mono CF.out ?_
      rintro x w3 ⟨rfl, hr3, hg3⟩
      have R3 := Lib.hid hr3
      have G3 := Lib.hid hg3
      clear hr3 hg3
      go_wp2_with fail
      go_ret
      exact ⟨rfl, by have := R3.out; simpa using this, G3.out⟩
    | got v r =>
      rw [hres] at C HNUM
      simp only [fstV] at C
      have HC := Lib.hid C
      have HREST := Lib.hid (rd_rest hres)
      clear C hres
      have q2 := Cn.nil_nil
      by_cases hv : most < v
      · have HN := Lib.hid (show numS most (0, l) = (0, (7, l)) by rw [HNUM.out]; simp only [if_pos hv])
        have hvz : (most : Int) < (v : Int) := by omega
        have CF := Lib.hid (fail_any p z 7 (by decide) (0, l) w HR.out)
        have q3 := neq_err 7
        clear hv
        rw [HN.out]
        go_enter Try.func60, Try.ntmps60
        go_wp2_with fail
        refine Calls.mono HC.out ?_
        rintro x w2 ⟨rfl, rfl⟩
        go_wp2_with fail
        refine Calls.mono CF.out ?_
        rintro x w3 ⟨rfl, hr3, hg3⟩
        have R3 := Lib.hid hr3
        have G3 := Lib.hid hg3
        clear hr3 hg3
        go_wp2_with fail
        go_ret
        exact ⟨rfl, by have := R3.out; simpa using this, G3.out⟩
      · have HN := Lib.hid (show numS most (0, l) = (v, (0, r)) by rw [HNUM.out]; simp only [if_neg hv])
        have hvz : ¬ (most : Int) < (v : Int) := by omega
        obtain ⟨k, hk⟩ : ∃ k, k = l.length - r.length := ⟨_, rfl⟩
        rw [← hk] at HC HREST
        have HK := Lib.hid hk
        obtain ⟨n, hn⟩ : ∃ n, n = l.length := ⟨_, rfl⟩
        have hsl := fun W => run_rest a n c k (by have := HREST.out.1; omega) W
        have HNL := Lib.hid hn
        rw [← hn] at c0 HC
        clear hv hk hn
        rw [HN.out]
        go_enter Try.func60, Try.ntmps60
        go_wp2_with fail
        refine Calls.mono HC.out ?_
        rintro x w2 ⟨rfl, rfl⟩
        go_wp2_with fail
        go_ret
        refine ⟨rfl, ⟨rest a c k, c - k, ?_, ?_, ?_, H4.out⟩, gr_set (gr_refl _ _) _ _⟩
        · have h5 := heap_setCell_same w p 0 _ _ (.slice (rest a c k) (n - k) (c - k)) H1.out
          have h6 : n - k = r.length := by have := HK.out; have := HNL.out; have := HREST.out; omega
          rw [h6] at h5 ⊢
          simpa using h5
        · have := HK.out; have := HNL.out; have := HREST.out; have := H2.out; simp only; omega
        · simp only
          have h7 := H3.out.drop (c := c) HREST.out.1 H2.out
          rw [HREST.out.2.1] at h7
          exact h7.far fun g hg => ⟨hg, Below.heap_setCell _ _ _ _ (by have : g < z := hg; have := H4.out; show g ≠ p; omega)⟩
  · have q2 := neq_err (e : Int)
    have e1 : errW e = .iface 40 (.int .i64 (e : Nat)) := by unfold errW; rw [if_neg he]
    rw [e1] at c1
    have HN := Lib.hid (show numS most (e, l) = (0, (e, l)) by unfold numS; rw [if_neg he])
    rw [HN.out]
    clear he e1
    go_enter Try.func60, Try.ntmps60
    go_wp2_with fail
    go_ret
    exact ⟨rfl, HR.out, gr_refl _ _⟩
theorem whole_rd (p z most : Nat) (hmost : most ≤ 2147483647) (s : St) (w : World) (hR : RdW w p z s) :
    Calls Try.prog 50 #[.pointer (some ⟨p, 0, none⟩), .int .i64 (most : Nat)] w fun e w' => RdE p z (.int .i64 ((numS most s).1 : Nat)) (numS most s).2 w w' e := by
  have C := Lib.hid (number_rd p z most (by unfold mx; omega) s w hR)
  have HX := Lib.hid (wrapU (show (most : Int) = ((most : Nat) : Int) from rfl) (show most < 18446744073709551616 by omega))
  have hle := numS_le most s
  obtain ⟨v, t, hv⟩ : ∃ v t, numS most s = (v, t) := ⟨_, _, rfl⟩
  rw [hv] at C hle ⊢
  simp only at C hle ⊢
  have h31 : (v : Int) ≤ 2147483647 := by omega
  clear hR hv hmost
  go_enter Try.func50, Try.ntmps50
  go_wp2_with fail
  try rw [HX.out]
  refine Calls.mono C.out ?_
  rintro x w2 ⟨rfl, hr, hg⟩
  go_wp2_with fail
  go_ret
  exact ⟨rfl, hr, hg⟩
theorem and_one (u : Nat) (h : u < 18446744073709551616) : bits BinOp.and IntKind.u64 (u : Int) 1 = ((u % 2 : Nat) : Int) := by
  rw [Lib.u64_and1 _ (by omega) (by omega)]
  omega
theorem xor_comm64 (a b : Int) : bits BinOp.xor IntKind.i64 a b = bits BinOp.xor IntKind.i64 b a := by
  show IntKind.i64.wrap ((BitVec.ofInt 64 a ^^^ BitVec.ofInt 64 b).toNat : Int) = IntKind.i64.wrap ((BitVec.ofInt 64 b ^^^ BitVec.ofInt 64 a).toNat : Int)
  rw [BitVec.xor_comm]
theorem xor_zero64 (x : Nat) (hx : x < 9223372036854775808) : bits BinOp.xor IntKind.i64 (x : Int) 0 = (x : Int) := by
  show IntKind.i64.wrap ((BitVec.ofInt 64 (x : Int) ^^^ BitVec.ofInt 64 0).toNat : Int) = _
  have h2 : (BitVec.ofInt 64 (x : Int)).toNat = x := by
    rw [BitVec.ofInt_natCast, BitVec.toNat_ofNat]; exact Nat.mod_eq_of_lt (by omega)
  have h0 : (BitVec.ofInt 64 0).toNat = 0 := by decide
  rw [BitVec.toNat_xor, h2, h0, Nat.xor_zero, IntKind.wrap_i64]
  omega
theorem zag_eq (u : Nat) (h : u < 18446744073709551616) : bits BinOp.xor IntKind.i64 (wrap64 ((u : Int) / 2)) (wrap64 (-wrap64 (bits BinOp.and IntKind.u64 (u : Int) 1))) = zag u := by
  have e1 : wrap64 ((u : Int) / 2) = ((u / 2 : Nat) : Int) := by unfold wrap64; omega
  rw [and_one u h, e1]
  by_cases h1 : u % 2 = 1
  · have e2 : wrap64 (-wrap64 ((u % 2 : Nat) : Int)) = -1 := by rw [h1]; unfold wrap64; omega
    rw [e2, xor_comm64, Lib.i64_not _ (by omega)]
    unfold zag
    rw [if_pos h1]
  · have e2 : wrap64 (-wrap64 ((u % 2 : Nat) : Int)) = 0 := by rw [show u % 2 = 0 by omega]; unfold wrap64; omega
    rw [e2, xor_zero64 _ (by omega)]
    unfold zag
    rw [if_neg h1]
theorem sign_rd (p z : Nat) (s : St) (w : World) (hR : RdW w p z s) :
    Calls Try.prog 61 #[.pointer (some ⟨p, 0, none⟩)] w fun e w' => RdE p z (.int .i64 (signS s).1) (signS s).2 w w' e := by
  have C := number_rd p z mx (Nat.le_refl _) s w hR
  have hle := numS_le mx s
  show Calls Try.prog 61 #[.pointer (some ⟨p, 0, none⟩)] w fun e w' => RdE p z (.int .i64 (zag (numS mx s).1)) (numS mx s).2 w w' e
  obtain ⟨u, t, hv⟩ : ∃ v t, numS mx s = (v, t) := ⟨_, _, rfl⟩
  rw [hv] at C hle ⊢
  simp only at C hle ⊢
  rw [show ((mx : Nat) : Int) = 18446744073709551615 from rfl] at C
  have HZ := Lib.hid (zag_eq u (by unfold mx at hle; omega))
  have HC := Lib.hid C
  clear hR hv hle C
  go_enter Try.func61, Try.ntmps61
  go_wp2_with fail
  refine Calls.mono HC.out ?_
  rintro x w2 ⟨rfl, hr, hg⟩
  go_wp2_with fail
  go_ret
  exact ⟨by rw [← HZ.out]; rfl, hr, hg⟩
theorem text_rd (p z most : Nat) (hmost : most ≤ 2147483647) (s : St) (w : World) (hR : RdW w p z s) :
    Calls Try.prog 52 #[.pointer (some ⟨p, 0, none⟩), .int .i64 (most : Nat)] w fun e w' => RdE p z (bs (textS most s).1) (textS most s).2 w w' e := by
  have C := whole_rd p z most hmost s w hR
  have hle := numS_le most s
  obtain ⟨v, t, hv⟩ : ∃ v t, numS most s = (v, t) := ⟨_, _, rfl⟩
  have HTX := Lib.hid (show textS most s = if t.2.length < v then ([], (if t.1 = 0 then 6 else t.1, t.2)) else (t.2.take v, (t.1, t.2.drop v)) by unfold textS; rw [hv])
  rw [hv] at C hle
  simp only at C hle
  have HC := Lib.hid C
  clear hR hv C
  obtain ⟨e1, l1⟩ := t
  go_enter Try.func52, Try.ntmps52
  go_wp2_with fail
  refine Calls.mono HC.out ?_
  rintro x w2 ⟨rfl, hr, hg⟩
  have HR := Lib.hid hr
  have HG := Lib.hid hg
  obtain ⟨a, c, h1, h2, h3, h4⟩ := hr
  simp only at h1 h2 h3 HTX
  have H1 := Lib.hid h1
  have H2 := Lib.hid h2
  have H3 := Lib.hid h3
  have H4 := Lib.hid h4
  obtain ⟨c0, c1, f0, f1⟩ := rd_cells h1
  clear h1 h2 h3 h4 hg
  obtain ⟨n, hn⟩ : ∃ n, n = l1.length := ⟨_, rfl⟩
  have hm : n ≤ 9223372036854775807 := by have := H3.out.1; unfold maxLen at this; omega
  have HN := Lib.hid hn
  rw [← hn] at c0 HTX
  clear hn
  by_cases hlt : n < v
  · have hlz : (n : Int) < (v : Int) := by omega
    have HT := Lib.hid (show textS most s = ([], (if e1 = 0 then 6 else e1, l1)) by rw [HTX.out, if_pos hlt])
    have CF := Lib.hid (fail_any p z 6 (by decide) (e1, l1) w2 HR.out)
    go_wp2_with fail
    refine Calls.mono CF.out ?_
    rintro x w3 ⟨rfl, hr3, hg3⟩
    have R3 := Lib.hid hr3
    have G3 := Lib.hid (HG.out.trans hg3)
    clear hr3 hg3
    go_wp2_with fail
    go_ret
    rw [HT.out]
    exact ⟨rfl, R3.out, G3.out⟩
  · have hlz : ¬ (n : Int) < (v : Int) := by omega
    have HT := Lib.hid (show textS most s = (l1.take v, (e1, l1.drop v)) by rw [HTX.out, if_neg hlt])
    have hvn : v ≤ n := by omega
    have hs1 := fun W => run_front a n c v (by have := H2.out; have := HN.out; omega) W
    have hs2 := fun W => run_rest a n c v hvn W
    have hst := fun W (hW : BytesAt W (Old z) a l1) => run_text (front a c) c (l1.take v) W (hW.take (c := c) (by have := HN.out; omega))
    have hs3 := hst w2 H3.out
    rw [show (l1.take v).length = v by rw [List.length_take]; have := HN.out; omega] at hs3
    clear hst
    go_wp2_with fail
    go_ret
    rw [HT.out]
    refine ⟨rfl, ⟨rest a c v, c - v, ?_, ?_, ?_, H4.out⟩, gr_set HG.out _ _⟩
    · have h5 := heap_setCell_same w2 p 0 _ _ (.slice (rest a c v) (n - v) (c - v)) H1.out
      have h6 : (l1.drop v).length = n - v := by rw [List.length_drop, ← HN.out]
      simp only
      rw [h6]
      simpa using h5
    · have := H2.out
      have := HN.out
      simp only [List.length_drop]
      omega
    · simp only
      exact (H3.out.drop (c := c) (by rw [← HN.out]; exact hvn) H2.out).far fun g hg => ⟨hg, Below.heap_setCell _ _ _ _ (by have : g < z := hg; have := H4.out; show g ≠ p; omega)⟩
end Go.Proofs.Ytndgbdbjmogioaa.Wi
