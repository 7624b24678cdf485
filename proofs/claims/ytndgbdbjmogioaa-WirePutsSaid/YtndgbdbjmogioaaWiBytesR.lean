/-
  Contract of bytes of the document's answer for layer 10: an event's bytes behind others. Memory that was there is left as it was.
-/
import Derived.Test.YtndgbdbjmogioaaWiPutE
import Derived.Deep.RegionHeldLaw
import Derived.Deep.AppendLies
import Derived.Great.BuildSlice
namespace Go.Proofs.Ytndgbdbjmogioaa.Wi
open Go.RowKit Go.Proofs.Ytndgbdbjmogioaa.Fl
set_option linter.unusedVariables false
set_option linter.unusedSimpArgs false

def BytR (z : Nat) (v : Value) (w : World) (L : List UInt8) (at' : List Att) (b : Nat) (cs : Array Value) (v0 v5 : Value) (wr : World) : Prop :=
  ∃ (k : Nat) (u : Value), u = v0 ∧ k ≤ at'.length ∧ v5 = .int .i64 (k : Nat) ∧ OB wr z v0 (L ++ putAll attF.put (at'.take k)) ∧ Step w wr none v v0 ∧ Bx wr none v0 b 29 cs
theorem step_app {W V : World} {p : Option Nat} {z k n : Nat} {t : TypeId} {v v' : Value} {xs : List Value} (ho : V.ownsRow z t k v' n xs) (hg : W.grownBy V v.ownBlock) (hat : v'.ownBlock = v.ownBlock ∨ ∃ b, v'.ownBlock = some b ∧ W.heap.size ≤ b) : Step W V p v v' := (Step.refl W p v).grown hg hat
theorem cell_drew (W : World) (a : Addr) : W.drew.cell? a = W.cell? a := rfl
theorem step_drew {w W : World} {p : Option Nat} {v v' : Value} (h : Step w W p v v') : Step w W.drew p v v' := h.below (Below.refl _ _).drew
set_option maxHeartbeats 4000000
set_option maxRecDepth 100000
theorem bytesR_any (z : Nat) (e : Ev) (he : evB e = true) (hr : evR e) (a : Option Addr) (c : Nat) (v : Value) (l : List UInt8) (w : World) (hz : z ≤ w.heap.size) (hA : AttsAt w (Old z) a e.attrs) (hO : OB w z v l) (hl : (l ++ evF.put e).length ≤ 1000000) :
    Calls Try.prog 30 #[v, .agg #[.int .i64 e.pub, .int .u32 (e.seq : Nat), .int .i64 e.x, .int .i64 e.y, .slice a e.attrs.length c]] w fun x w' => OutEnd z (l ++ evF.put e) v w w' x := by
  rw [ev_put] at hl ⊢
  obtain ⟨i0, hi, hz0, hz1, hz2⟩ := info_parts infoB
  obtain ⟨pub, seq, x, y, at'⟩ := e
  simp only [evB, Bool.and_eq_true, decide_eq_true_eq] at he
  obtain ⟨⟨⟨⟨h1, h2⟩, h3⟩, h4⟩, h5⟩ := he
  obtain ⟨pn, rfl, hpn⟩ := few_nat h1
  simp only [coordB, Bool.and_eq_true, decide_eq_true_eq] at h2 h3
  simp only [Int.toNat_natCast] at hl ⊢
  have HQ := Lib.hid (wrapU (show (seq : Int) = ((seq : Nat) : Int) from rfl) (show seq < 18446744073709551616 by have := hr.1; simp only at this; omega))
  have HPQ := Lib.hid (wrapU (show (pn : Int) = ((pn : Nat) : Int) from rfl) (show pn < 18446744073709551616 by omega))
  have HX := Lib.hid (show -9223372036854775808 ≤ x ∧ x ≤ 9223372036854775807 by omega)
  have HY := Lib.hid (show -9223372036854775808 ≤ y ∧ y ≤ 9223372036854775807 by omega)
  have HSQ := Lib.hid (show seq < 18446744073709551616 by have := hr.1; simp only at this; omega)
  have HP := Lib.hid (show pn < 18446744073709551616 by omega)
  have HAT := Lib.hid h5
  have HRN := Lib.hid (show ∀ b ∈ at', -9223372036854775808 ≤ b.num ∧ b.num ≤ 9223372036854775807 from hr.2)
  obtain ⟨n, hn⟩ : ∃ n, n = at'.length := ⟨_, rfl⟩
  have hn16 : n ≤ 16 := by rw [hn]; exact h4
  have HNL := Lib.hid hn
  simp only at hA
  rw [← hn] at hl ⊢
  have HNQ := Lib.hid (wrapU (show (n : Int) = ((n : Nat) : Int) from rfl) (show n < 18446744073709551616 by omega))
  have HL := Lib.hid hl
  have HA := Lib.hid hA
  have HZ := Lib.hid hz
  have HVZ := Lib.hid (show ∀ k, v.ownBlock = some k → z ≤ k from fun k hk => (hO.lt hk).1)
  obtain ⟨w1, hw1⟩ : ∃ W0 : World, W0 = w.alloc (.cells #[.int .i64 (pn : Int), .int .u32 (seq : Nat), .int .i64 x, .int .i64 y, .slice a n c] 29) := ⟨_, rfl⟩
  have HW := Lib.hid hw1
  have X1 := Lib.hid (show Bx w1 none v w.heap.size 29 #[.int .i64 (pn : Int), .int .u32 (seq : Nat), .int .i64 x, .int .i64 y, .slice a n c] by rw [hw1]; exact Bx.newO hO _ _)
  have O1 := Lib.hid (show OB w1 z v l by rw [hw1]; exact hO.later (below_alloc _ _))
  have S1 := Lib.hid (show Step w w1 none v v by rw [hw1]; exact (Step.refl _ _ _).alloc _)
  clear hO hw1 hl hA hn h1 h2 h3 h4 h5 hr hz hpn
  obtain ⟨c0, c1, c2, c3, c4⟩ := X1.out.c5
  go_enter Try.func30, Try.ntmps30
  go_wp2_with fail
  rw [← HW.out]
  try rw [HPQ.out]
  refine Calls.mono (numR_any z pn HP.out v _ w1 (Nat.le_trans HZ.out S1.out.size) (by have := HL.out; simp only [List.length_append] at this ⊢; omega) O1.out) ?_
  rintro e w2 ⟨v2, rfl, ho2, hs2⟩
  have O2 := Lib.hid ho2
  have X2 := Lib.hid (X1.out.step hs2)
  have S2 := Lib.hid (S1.out.trans hs2)
  clear ho2 hs2 c0 c1 c2 c3 c4
  obtain ⟨c0, c1, c2, c3, c4⟩ := X2.out.c5
  go_wp2_with fail
  try rw [HQ.out]
  refine Calls.mono (numR_any z seq HSQ.out v2 _ w2 (Nat.le_trans HZ.out S2.out.size) (by have := HL.out; simp only [List.length_append] at this ⊢; omega) O2.out) ?_
  rintro e w3 ⟨v3, rfl, ho3, hs3⟩
  have O3 := Lib.hid ho3
  have X3 := Lib.hid (X2.out.step hs3)
  have S3 := Lib.hid (S2.out.trans hs3)
  clear ho3 hs3 c0 c1 c2 c3 c4
  obtain ⟨c0, c1, c2, c3, c4⟩ := X3.out.c5
  go_wp2_with fail
  refine Calls.mono (signR_any z x HX.out.1 HX.out.2 v3 _ w3 (Nat.le_trans HZ.out S3.out.size) (by have := HL.out; simp only [List.length_append] at this ⊢; omega) O3.out) ?_
  rintro e w4 ⟨v4, rfl, ho4, hs4⟩
  have O4 := Lib.hid ho4
  have X4 := Lib.hid (X3.out.step hs4)
  have S4 := Lib.hid (S3.out.trans hs4)
  clear ho4 hs4 c0 c1 c2 c3 c4
  obtain ⟨c0, c1, c2, c3, c4⟩ := X4.out.c5
  go_wp2_with fail
  refine Calls.mono (signR_any z y HY.out.1 HY.out.2 v4 _ w4 (Nat.le_trans HZ.out S4.out.size) (by have := HL.out; simp only [List.length_append] at this ⊢; omega) O4.out) ?_
  rintro e w5 ⟨v5, rfl, ho5, hs5⟩
  have O5 := Lib.hid ho5
  have X5 := Lib.hid (X4.out.step hs5)
  have S5 := Lib.hid (S4.out.trans hs5)
  clear ho5 hs5 c0 c1 c2 c3 c4
  obtain ⟨c0, c1, c2, c3, c4⟩ := X5.out.c5
  go_wp2_with fail
  try rw [HNQ.out]
  refine Calls.mono (numR_any z n (by omega) v5 _ w5 (Nat.le_trans HZ.out S5.out.size) (by have := HL.out; simp only [List.length_append] at this ⊢; omega) O5.out) ?_
  rintro e w6 ⟨v6, rfl, ho6, hs6⟩
  have O6 := Lib.hid ho6
  have X6 := Lib.hid (X5.out.step hs6)
  have S6 := Lib.hid (S5.out.trans hs6)
  clear ho6 hs6 c0 c1 c2 c3 c4
  obtain ⟨c0, c1, c2, c3, c4⟩ := X6.out.c5
  go_wp2_with fail
  go_loopw [0, 5] (fun v0 v5 wr => BytR z v w (l ++ numL pn ++ numL seq ++ numL (zig x) ++ numL (zig y) ++ numL n) at' w.heap.size #[.int .i64 (pn : Int), .int .u32 (seq : Nat), .int .i64 x, .int .i64 y, .slice a n c] v0 v5 wr) (fun _ v5 _ => n - (intOf v5).toNat)
  case atStart => exact ⟨0, v6, rfl, Nat.zero_le _, rfl, by simpa [putAll] using O6.out, S6.out, X6.out⟩
  case round =>
    obtain ⟨k, u, rfl, hk, rfl, hO, hS, hX⟩ := hrel
    have OR := Lib.hid hO
    have SR := Lib.hid hS
    have XR := Lib.hid hX
    rw [← HNL.out] at hk
    clear hO hS hX c0 c1 c2 c3 c4
    by_cases hlt : k < n
    · have hlz : (k : Int) < (n : Int) := by omega
      have HK := Lib.hid (show k < at'.length by rw [← HNL.out]; exact hlt)
      have OLD := Lib.hid (SR.out.old (z := z) HZ.out (fun k hk => by cases hk) (fun k hk => HVZ.out k hk))
      have AR := Lib.hid (HA.out.later OLD.out)
      obtain ⟨g, o, hg, hgz, hc⟩ := AR.out.2.2 (Nat.lt_of_le_of_lt (Nat.zero_le _) HK.out)
      have hcc := hc k HK.out
      have HAK := Lib.hid (all_take HAT.out HK.out)
      have HNK := Lib.hid (HRN.out _ (List.getElem_mem HK.out))
      have HPT := Lib.hid (putAll_take attF.put at' HK.out)
      have HLE := Lib.hid (putAll_le attF.put at' (k + 1))
      obtain ⟨b, hb⟩ : ∃ b, b = at'[k]'HK.out := ⟨_, rfl⟩
      rw [← hb] at hcc HAK HNK HPT
      clear hb
      obtain ⟨nm, tx, nu, st⟩ := b
      simp only at hcc HNK
      obtain ⟨d0, d1, d2, d3⟩ := hcc
      obtain ⟨sn, e0, hsn⟩ := bs_of nm
      obtain ⟨ss, e3, hss⟩ := bs_of st
      rw [e0] at d0
      rw [e3] at d3
      have HSN := Lib.hid hsn
      have HSS := Lib.hid hss
      have HGZ := Lib.hid (show g < z from hgz)
      subst hg
      obtain ⟨c0, c1, c2, c3, c4⟩ := XR.out.c5
      have ZR := Lib.hid (Nat.le_trans HZ.out SR.out.size)
      have HUZ := Lib.hid (show ∀ k, u.ownBlock = some k → z ≤ k from fun k hk => (OR.out.lt hk).1)
      have HL1 := Lib.hid (show (l ++ numL pn ++ numL seq ++ numL (zig x) ++ numL (zig y) ++ numL n ++ putAll attF.put (at'.take k) ++ attF.put ⟨nm, tx, nu, st⟩).length ≤ 1000000 by have h1 := HL.out; have h2 := HLE.out; rw [HPT.out] at h2; simp only [List.length_append] at h1 h2 ⊢; omega)
      have D0 := Lib.hid (And.intro d0 (And.intro d1 (And.intro d2 d3)))
      clear hc e0 e3 hsn hss hgz
      cases tx
      · rw [att_num] at HL1
        have HL2 := Lib.hid HL1.out
        clear HL1
        go_wp2_with fail
        refine Calls.mono (textR_any z sn nm HSN.out u _ wr ZR.out (by have := HL2.out; simp only [List.length_append] at this ⊢; omega) OR.out) ?_
        rintro e w7 ⟨v7, rfl, ho7, hs7⟩
        obtain ⟨L7, hL7, O7⟩ : ∃ L7, L7 = _ ∧ Hid (OB w7 z v7 L7) := ⟨_, rfl, Lib.hid ho7⟩
        have HLB := Lib.hid (show L7.length + 1 + (numL (zig nu)).length ≤ 1000000 by have := HL2.out; rw [hL7]; simp only [List.length_append, numL_small (show 0 < 128 by decide), List.length_cons, List.length_nil] at this ⊢; omega)
        have HL7 := Lib.hid hL7
        clear hL7
        have X7 := Lib.hid (XR.out.step hs7)
        have S7 := Lib.hid (SR.out.trans hs7)
        have OLD7 := Lib.hid (hs7.old (z := z) ZR.out (fun k hk => by cases hk) (fun k hk => HUZ.out k hk))
        have E7 := Lib.hid (show w7.cell? ⟨g, o + k * 4, none⟩ = some (.string sn) ∧ w7.cell? ⟨g, o + k * 4 + 1, none⟩ = some (.bool false) ∧ w7.cell? ⟨g, o + k * 4 + 2, none⟩ = some (.int .i64 nu) ∧ w7.cell? ⟨g, o + k * 4 + 3, none⟩ = some (.string ss) from ⟨(OLD7.out.cell HGZ.out).trans D0.out.1, (OLD7.out.cell HGZ.out).trans D0.out.2.1, (OLD7.out.cell HGZ.out).trans D0.out.2.2.1, (OLD7.out.cell HGZ.out).trans D0.out.2.2.2⟩)
        clear ho7 hs7 c0 c1 c2 c3 c4 d0 d1 d2 d3
        obtain ⟨c0, c1, c2, c3, c4⟩ := X7.out.c5
        obtain ⟨d0, d1, d2, d3⟩ := E7.out
        have HS0 := Lib.hid (show (fun W => W.cell? ⟨w.heap.size, 4, none⟩ = some (.slice (some ⟨g, o, none⟩) n c) ∧ W.cell? ⟨g, o + k * 4 + 2, none⟩ = some (.int .i64 nu)) w7.drew from ⟨c4, d2⟩)
        go_wp2_with fail
        refine wp_region_held_drew (S := (fun W => W.cell? ⟨w.heap.size, 4, none⟩ = some (.slice (some ⟨g, o, none⟩) n c) ∧ W.cell? ⟨g, o + k * 4 + 2, none⟩ = some (.int .i64 nu))) (by kernel_rfl) HS0.out (fun hHeld => ?_)
        clear c0 c1 c2 c3 c4 d0 d1 d2 d3
        refine wpAnyH_take (i := 0) (v := ?vA0) rfl (by kernel_rfl) (by kernel_rfl) (by kernel_rfl) (fun _ _ _ h => h) (Or.inl ⟨by rfl, ?yA0⟩) hHeld ?rA0
        case yA0 => (intro W hSw; simp only [List.getElem_toArray, List.getElem_cons_zero]; go_simp; try (with_reducible rfl))
        simp only [List.getElem_toArray, List.getElem_cons_zero, Act.put, List.setIfInBounds_toArray, List.set_cons_zero, List.set_cons_succ]
        refine wpAnyH_take (i := 3) (v := ?vA3) rfl (by kernel_rfl) (by kernel_rfl) (by kernel_rfl) (fun _ _ _ h => h) (Or.inl ⟨by rfl, ?yA3⟩) hHeld ?rA3
        case yA3 => (intro W hSw; simp only [List.getElem_toArray, List.getElem_cons_succ, List.getElem_cons_zero]; go_simp; try (with_reducible rfl))
        simp only [List.getElem_toArray, List.getElem_cons_succ, List.getElem_cons_zero, Act.put, List.setIfInBounds_toArray, List.set_cons_zero, List.set_cons_succ]
        refine wpAnyH_take (i := 4) (v := ?vA4) rfl (by kernel_rfl) (by kernel_rfl) (by kernel_rfl) (fun _ _ _ h => h) (Or.inl ⟨by rfl, ?yA4⟩) hHeld ?rA4
        case yA4 => (intro W hSw; simp only [List.getElem_toArray, List.getElem_cons_succ, List.getElem_cons_zero]; go_simp; try (with_reducible rfl))
        simp only [List.getElem_toArray, List.getElem_cons_succ, List.getElem_cons_zero, Act.put, List.setIfInBounds_toArray, List.set_cons_zero, List.set_cons_succ]
        refine wpAnyH_take (i := 5) (v := ?vA5) rfl (by kernel_rfl) (by kernel_rfl) (by kernel_rfl) (fun _ _ _ h => h) (Or.inl ⟨by rfl, ?yA5⟩) hHeld ?rA5
        case yA5 => (intro W hSw; simp only [List.getElem_toArray, List.getElem_cons_succ, List.getElem_cons_zero]; go_simp; try (with_reducible rfl))
        simp only [List.getElem_toArray, List.getElem_cons_succ, List.getElem_cons_zero, Act.put, List.setIfInBounds_toArray, List.set_cons_zero, List.set_cons_succ]
        refine wpAnyH_take (i := 6) (v := ?vA6) rfl (by kernel_rfl) (by kernel_rfl) (by kernel_rfl) (fun _ _ _ h => h) (Or.inl ⟨by rfl, ?yA6⟩) hHeld ?rA6
        case yA6 => (intro W hSw; simp only [List.getElem_toArray, List.getElem_cons_succ, List.getElem_cons_zero]; go_simp; try (with_reducible rfl))
        simp only [List.getElem_toArray, List.getElem_cons_succ, List.getElem_cons_zero, Act.put, List.setIfInBounds_toArray, List.set_cons_zero, List.set_cons_succ]
        refine wpAnyH_take (i := 7) (v := ?vA7) rfl (by kernel_rfl) (by kernel_rfl) (by kernel_rfl) (fun _ _ _ h => h) (Or.inl ⟨by rfl, ?yA7⟩) hHeld ?rA7
        case yA7 => (intro W hSw; simp only [List.getElem_toArray, List.getElem_cons_succ, List.getElem_cons_zero]; go_simp; try (with_reducible rfl))
        simp only [List.getElem_toArray, List.getElem_cons_succ, List.getElem_cons_zero, Act.put, List.setIfInBounds_toArray, List.set_cons_zero, List.set_cons_succ]
        refine wpAnyH_take (i := 8) (v := ?vA8) rfl (by kernel_rfl) (by kernel_rfl) (by kernel_rfl) (fun _ _ _ h => h) (Or.inl ⟨by rfl, ?yA8⟩) hHeld ?rA8
        case yA8 => (intro W hSw; simp only [List.getElem_toArray, List.getElem_cons_succ, List.getElem_cons_zero]; go_simp; try (with_reducible rfl))
        simp only [List.getElem_toArray, List.getElem_cons_succ, List.getElem_cons_zero, Act.put, List.setIfInBounds_toArray, List.set_cons_zero, List.set_cons_succ]
        refine wpAnyH_ready (rs := [1]) (by kernel_rfl) (by simp) (AllReadyH.cons rfl (fun K hK => ?_) AllReadyH.nil)
        simp only [List.getElem_toArray, List.getElem_cons_succ, List.getElem_cons_zero]
        go_simp
        obtain ⟨w8, hw8⟩ : ∃ W0 : World, W0 = (w7.alloc (.cells #[.int .u8 0] 5)).drew := ⟨_, rfl⟩
        rw [← hw8]
        have B8 := Lib.hid (show Below w7.heap.size w7 w8 by rw [hw8]; exact (below_alloc _ _).drew)
        have O8 := Lib.hid (O7.out.later B8.out)
        have X8 := Lib.hid (X7.out.later B8.out)
        have S8 := Lib.hid (S7.out.below B8.out)
        have N8 := Lib.hid (show ∀ j x, [Value.int .u8 0][j]? = some x → w8.cell? ((⟨w7.heap.size, 0, none⟩ : Addr).add j) = some x by rw [hw8]; exact new_byte w7 _ _)
        have K8 := Lib.hid (show (fun W => W.cell? ⟨w.heap.size, 4, none⟩ = some (.slice (some ⟨g, o, none⟩) n c) ∧ W.cell? ⟨g, o + k * 4 + 2, none⟩ = some (.int .i64 nu)) w8 from ⟨X8.out.c5.2.2.2.2, (B8.out.cell (Nat.lt_of_lt_of_le HGZ.out (Nat.le_trans HZ.out S7.out.size))).trans E7.out.2.2.1⟩)
        clear hw8
        refine hK.out _ _ (K8.out) (fun hHeld1 => ?_)
        clear hK K hHeld
        have hHeld := hHeld1; clear hHeld1
        try simp only [List.getElem_toArray, List.getElem_cons_succ, List.getElem_cons_zero, Act.put, List.setIfInBounds_toArray, List.set_cons_zero, List.set_cons_succ]
        refine wpAnyH_ready (rs := [2]) (by kernel_rfl) (by simp) (AllReadyH.cons rfl (fun K hK => ?_) AllReadyH.nil)
        simp only [List.getElem_toArray, List.getElem_cons_succ, List.getElem_cons_zero]
        refine wp_append_lies w8 (.tmp 63) (.tmp 64) 34 rfl z 5 i0 (.int .u8 0) 1 1 Try.underlying34 hi hz0 hz1 hz2 rfl (by decide) v7 _ _ rfl O8.out ⟨w7.heap.size, 0, none⟩ 1 1 [.int .u8 0] rfl rfl N8.out (one_byte _) (by decide) (by have := HLB.out; unfold maxLen; omega) (by have := HLB.out; omega) (Nat.le_trans HZ.out S8.out.size) w8.heap.size rfl ?_
        intro gq cap w9 ho9 hg9 hat9 hlt9
        have hs9 := step_app (p := none) ho9 hg9 (hat9.elim (fun e => Or.inl e.symm) (fun e => Or.inr ⟨gq, rfl, by omega⟩))
        have O9 := Lib.hid (ob_snoc (n := 0) rfl (by decide) ho9)
        have X9 := Lib.hid (X8.out.step hs9)
        have S9 := Lib.hid (S8.out.trans hs9)
        have HV7 : ∀ k, v7.ownBlock = some k → z ≤ k := fun k hk => (O7.out.lt hk).1
        have OLD9 := Lib.hid (hs9.old (z := z) (Nat.le_trans HZ.out S8.out.size) (fun k hk => by cases hk) HV7)
        have K9 := Lib.hid (show (fun W => W.cell? ⟨w.heap.size, 4, none⟩ = some (.slice (some ⟨g, o, none⟩) n c) ∧ W.cell? ⟨g, o + k * 4 + 2, none⟩ = some (.int .i64 nu)) w9 from ⟨X9.out.c5.2.2.2.2, (OLD9.out.cell HGZ.out).trans K8.out.2⟩)
        have ZN9 := Lib.hid (Nat.le_trans HZ.out S9.out.size)
        clear ho9 hg9 hat9 hlt9 hs9 HV7
        refine hK.out _ _ (K9.out) (fun hHeld1 => ?_)
        clear hK K hHeld
        have hHeld := hHeld1; clear hHeld1
        try simp only [List.getElem_toArray, List.getElem_cons_succ, List.getElem_cons_zero, Act.put, List.setIfInBounds_toArray, List.set_cons_zero, List.set_cons_succ]
        refine wpAnyH_ready (rs := [9]) (by kernel_rfl) (by simp) (AllReadyH.cons rfl (fun K hK => ?_) AllReadyH.nil)
        simp only [List.getElem_toArray, List.getElem_cons_succ, List.getElem_cons_zero]
        go_simp
        go_at_call 28
        refine Calls.mono (signR_any z nu HNK.out.1 HNK.out.2 _ _ w9 ZN9.out (by have := HLB.out; rw [List.length_append, List.length_append, List.length_singleton]; exact this) O9.out) ?_
        rintro e w10 ⟨v10, rfl, ho10, hs10⟩
        have X10 := Lib.hid (X9.out.step hs10)
        have S10 := Lib.hid (S9.out.trans hs10)
        have O10 := Lib.hid ho10
        have OLD10 := Lib.hid (hs10.old (z := z) ZN9.out (fun k hk => by cases hk) (fun k hk => (O9.out.lt hk).1))
        have K10 := Lib.hid (show (fun W => W.cell? ⟨w.heap.size, 4, none⟩ = some (.slice (some ⟨g, o, none⟩) n c) ∧ W.cell? ⟨g, o + k * 4 + 2, none⟩ = some (.int .i64 nu)) w10 from ⟨X10.out.c5.2.2.2.2, (OLD10.out.cell HGZ.out).trans K9.out.2⟩)
        clear ho10 hs10
        try go_wp2_with fail
        refine hK.out _ _ (K10.out) (fun hHeld1 => ?_)
        clear hK K hHeld
        have hHeld := hHeld1; clear hHeld1
        try simp only [List.getElem_toArray, List.getElem_cons_succ, List.getElem_cons_zero, Act.put, List.setIfInBounds_toArray, List.set_cons_zero, List.set_cons_succ]
        refine wpAnyH_take (i := 10) (v := ?vA10) rfl (by kernel_rfl) (by kernel_rfl) (by kernel_rfl) (fun _ _ _ h => h) (Or.inl ⟨by rfl, ?yA10⟩) hHeld ?rA10
        case yA10 => (intro W hSw; simp only [List.getElem_toArray, List.getElem_cons_succ, List.getElem_cons_zero]; go_simp; try (with_reducible rfl))
        simp only [List.getElem_toArray, List.getElem_cons_succ, List.getElem_cons_zero, Act.put, List.setIfInBounds_toArray, List.set_cons_zero, List.set_cons_succ]
        refine wpAnyH_done (by kernel_rfl) ?_ _
        clear hHeld
        obtain ⟨c0, c1, c2, c3, c4⟩ := X10.out.c5
        go_wp2_with fail
        go_roundw
        case rel => exact ⟨k + 1, v10, rfl, by rw [← HNL.out]; omega, by go_num, by have := O10.out; rw [HL7.out] at this; rw [HPT.out, att_num, numL_small (show 0 < 128 by decide)]; simpa only [List.append_assoc, List.cons_append, List.nil_append] using this, S10.out, X10.out⟩
        case measure => simp [intOf]; omega
      · rw [att_text] at HL1
        have HL2 := Lib.hid HL1.out
        clear HL1
        go_wp2_with fail
        refine Calls.mono (textR_any z sn nm HSN.out u _ wr ZR.out (by have := HL2.out; simp only [List.length_append] at this ⊢; omega) OR.out) ?_
        rintro e w7 ⟨v7, rfl, ho7, hs7⟩
        obtain ⟨L7, hL7, O7⟩ : ∃ L7, L7 = _ ∧ Hid (OB w7 z v7 L7) := ⟨_, rfl, Lib.hid ho7⟩
        have HLB := Lib.hid (show L7.length + 1 + (numL st.length ++ st).length ≤ 1000000 by have := HL2.out; rw [hL7]; simp only [List.length_append, numL_small (show 1 < 128 by decide), List.length_cons, List.length_nil] at this ⊢; omega)
        have HL7 := Lib.hid hL7
        clear hL7
        have X7 := Lib.hid (XR.out.step hs7)
        have S7 := Lib.hid (SR.out.trans hs7)
        have OLD7 := Lib.hid (hs7.old (z := z) ZR.out (fun k hk => by cases hk) (fun k hk => HUZ.out k hk))
        have E7 := Lib.hid (show w7.cell? ⟨g, o + k * 4, none⟩ = some (.string sn) ∧ w7.cell? ⟨g, o + k * 4 + 1, none⟩ = some (.bool true) ∧ w7.cell? ⟨g, o + k * 4 + 2, none⟩ = some (.int .i64 nu) ∧ w7.cell? ⟨g, o + k * 4 + 3, none⟩ = some (.string ss) from ⟨(OLD7.out.cell HGZ.out).trans D0.out.1, (OLD7.out.cell HGZ.out).trans D0.out.2.1, (OLD7.out.cell HGZ.out).trans D0.out.2.2.1, (OLD7.out.cell HGZ.out).trans D0.out.2.2.2⟩)
        clear ho7 hs7 c0 c1 c2 c3 c4 d0 d1 d2 d3
        obtain ⟨c0, c1, c2, c3, c4⟩ := X7.out.c5
        obtain ⟨d0, d1, d2, d3⟩ := E7.out
        have HS0 := Lib.hid (show (fun W => W.cell? ⟨w.heap.size, 4, none⟩ = some (.slice (some ⟨g, o, none⟩) n c) ∧ W.cell? ⟨g, o + k * 4 + 3, none⟩ = some (.string ss)) w7.drew from ⟨c4, d3⟩)
        go_wp2_with fail
        refine wp_region_held_drew (S := (fun W => W.cell? ⟨w.heap.size, 4, none⟩ = some (.slice (some ⟨g, o, none⟩) n c) ∧ W.cell? ⟨g, o + k * 4 + 3, none⟩ = some (.string ss))) (by kernel_rfl) HS0.out (fun hHeld => ?_)
        clear c0 c1 c2 c3 c4 d0 d1 d2 d3
        refine wpAnyH_take (i := 0) (v := ?vB0) rfl (by kernel_rfl) (by kernel_rfl) (by kernel_rfl) (fun _ _ _ h => h) (Or.inl ⟨by rfl, ?yB0⟩) hHeld ?rB0
        case yB0 => (intro W hSw; simp only [List.getElem_toArray, List.getElem_cons_zero]; go_simp; try (with_reducible rfl))
        simp only [List.getElem_toArray, List.getElem_cons_zero, Act.put, List.setIfInBounds_toArray, List.set_cons_zero, List.set_cons_succ]
        refine wpAnyH_take (i := 3) (v := ?vB3) rfl (by kernel_rfl) (by kernel_rfl) (by kernel_rfl) (fun _ _ _ h => h) (Or.inl ⟨by rfl, ?yB3⟩) hHeld ?rB3
        case yB3 => (intro W hSw; simp only [List.getElem_toArray, List.getElem_cons_succ, List.getElem_cons_zero]; go_simp; try (with_reducible rfl))
        simp only [List.getElem_toArray, List.getElem_cons_succ, List.getElem_cons_zero, Act.put, List.setIfInBounds_toArray, List.set_cons_zero, List.set_cons_succ]
        refine wpAnyH_take (i := 4) (v := ?vB4) rfl (by kernel_rfl) (by kernel_rfl) (by kernel_rfl) (fun _ _ _ h => h) (Or.inl ⟨by rfl, ?yB4⟩) hHeld ?rB4
        case yB4 => (intro W hSw; simp only [List.getElem_toArray, List.getElem_cons_succ, List.getElem_cons_zero]; go_simp; try (with_reducible rfl))
        simp only [List.getElem_toArray, List.getElem_cons_succ, List.getElem_cons_zero, Act.put, List.setIfInBounds_toArray, List.set_cons_zero, List.set_cons_succ]
        refine wpAnyH_take (i := 5) (v := ?vB5) rfl (by kernel_rfl) (by kernel_rfl) (by kernel_rfl) (fun _ _ _ h => h) (Or.inl ⟨by rfl, ?yB5⟩) hHeld ?rB5
        case yB5 => (intro W hSw; simp only [List.getElem_toArray, List.getElem_cons_succ, List.getElem_cons_zero]; go_simp; try (with_reducible rfl))
        simp only [List.getElem_toArray, List.getElem_cons_succ, List.getElem_cons_zero, Act.put, List.setIfInBounds_toArray, List.set_cons_zero, List.set_cons_succ]
        refine wpAnyH_take (i := 6) (v := ?vB6) rfl (by kernel_rfl) (by kernel_rfl) (by kernel_rfl) (fun _ _ _ h => h) (Or.inl ⟨by rfl, ?yB6⟩) hHeld ?rB6
        case yB6 => (intro W hSw; simp only [List.getElem_toArray, List.getElem_cons_succ, List.getElem_cons_zero]; go_simp; try (with_reducible rfl))
        simp only [List.getElem_toArray, List.getElem_cons_succ, List.getElem_cons_zero, Act.put, List.setIfInBounds_toArray, List.set_cons_zero, List.set_cons_succ]
        refine wpAnyH_take (i := 7) (v := ?vB7) rfl (by kernel_rfl) (by kernel_rfl) (by kernel_rfl) (fun _ _ _ h => h) (Or.inl ⟨by rfl, ?yB7⟩) hHeld ?rB7
        case yB7 => (intro W hSw; simp only [List.getElem_toArray, List.getElem_cons_succ, List.getElem_cons_zero]; go_simp; try (with_reducible rfl))
        simp only [List.getElem_toArray, List.getElem_cons_succ, List.getElem_cons_zero, Act.put, List.setIfInBounds_toArray, List.set_cons_zero, List.set_cons_succ]
        refine wpAnyH_take (i := 8) (v := ?vB8) rfl (by kernel_rfl) (by kernel_rfl) (by kernel_rfl) (fun _ _ _ h => h) (Or.inl ⟨by rfl, ?yB8⟩) hHeld ?rB8
        case yB8 => (intro W hSw; simp only [List.getElem_toArray, List.getElem_cons_succ, List.getElem_cons_zero]; go_simp; try (with_reducible rfl))
        simp only [List.getElem_toArray, List.getElem_cons_succ, List.getElem_cons_zero, Act.put, List.setIfInBounds_toArray, List.set_cons_zero, List.set_cons_succ]
        refine wpAnyH_ready (rs := [1]) (by kernel_rfl) (by simp) (AllReadyH.cons rfl (fun K hK => ?_) AllReadyH.nil)
        simp only [List.getElem_toArray, List.getElem_cons_succ, List.getElem_cons_zero]
        go_simp
        obtain ⟨w8, hw8⟩ : ∃ W0 : World, W0 = (w7.alloc (.cells #[.int .u8 1] 5)).drew := ⟨_, rfl⟩
        rw [← hw8]
        have B8 := Lib.hid (show Below w7.heap.size w7 w8 by rw [hw8]; exact (below_alloc _ _).drew)
        have O8 := Lib.hid (O7.out.later B8.out)
        have X8 := Lib.hid (X7.out.later B8.out)
        have S8 := Lib.hid (S7.out.below B8.out)
        have N8 := Lib.hid (show ∀ j x, [Value.int .u8 1][j]? = some x → w8.cell? ((⟨w7.heap.size, 0, none⟩ : Addr).add j) = some x by rw [hw8]; exact new_byte w7 _ _)
        have K8 := Lib.hid (show (fun W => W.cell? ⟨w.heap.size, 4, none⟩ = some (.slice (some ⟨g, o, none⟩) n c) ∧ W.cell? ⟨g, o + k * 4 + 3, none⟩ = some (.string ss)) w8 from ⟨X8.out.c5.2.2.2.2, (B8.out.cell (Nat.lt_of_lt_of_le HGZ.out (Nat.le_trans HZ.out S7.out.size))).trans E7.out.2.2.2⟩)
        clear hw8
        refine hK.out _ _ (K8.out) (fun hHeld1 => ?_)
        clear hK K hHeld
        have hHeld := hHeld1; clear hHeld1
        try simp only [List.getElem_toArray, List.getElem_cons_succ, List.getElem_cons_zero, Act.put, List.setIfInBounds_toArray, List.set_cons_zero, List.set_cons_succ]
        refine wpAnyH_ready (rs := [2]) (by kernel_rfl) (by simp) (AllReadyH.cons rfl (fun K hK => ?_) AllReadyH.nil)
        simp only [List.getElem_toArray, List.getElem_cons_succ, List.getElem_cons_zero]
        refine wp_append_lies w8 (.tmp 53) (.tmp 54) 34 rfl z 5 i0 (.int .u8 0) 1 1 Try.underlying34 hi hz0 hz1 hz2 rfl (by decide) v7 _ _ rfl O8.out ⟨w7.heap.size, 0, none⟩ 1 1 [.int .u8 1] rfl rfl N8.out (one_byte _) (by decide) (by have := HLB.out; unfold maxLen; omega) (by have := HLB.out; omega) (Nat.le_trans HZ.out S8.out.size) w8.heap.size rfl ?_
        intro gq cap w9 ho9 hg9 hat9 hlt9
        have hs9 := step_app (p := none) ho9 hg9 (hat9.elim (fun e => Or.inl e.symm) (fun e => Or.inr ⟨gq, rfl, by omega⟩))
        have O9 := Lib.hid (ob_snoc (n := 1) rfl (by decide) ho9)
        have X9 := Lib.hid (X8.out.step hs9)
        have S9 := Lib.hid (S8.out.trans hs9)
        have HV7 : ∀ k, v7.ownBlock = some k → z ≤ k := fun k hk => (O7.out.lt hk).1
        have OLD9 := Lib.hid (hs9.old (z := z) (Nat.le_trans HZ.out S8.out.size) (fun k hk => by cases hk) HV7)
        have K9 := Lib.hid (show (fun W => W.cell? ⟨w.heap.size, 4, none⟩ = some (.slice (some ⟨g, o, none⟩) n c) ∧ W.cell? ⟨g, o + k * 4 + 3, none⟩ = some (.string ss)) w9 from ⟨X9.out.c5.2.2.2.2, (OLD9.out.cell HGZ.out).trans K8.out.2⟩)
        have ZN9 := Lib.hid (Nat.le_trans HZ.out S9.out.size)
        clear ho9 hg9 hat9 hlt9 hs9 HV7
        refine hK.out _ _ (K9.out) (fun hHeld1 => ?_)
        clear hK K hHeld
        have hHeld := hHeld1; clear hHeld1
        try simp only [List.getElem_toArray, List.getElem_cons_succ, List.getElem_cons_zero, Act.put, List.setIfInBounds_toArray, List.set_cons_zero, List.set_cons_succ]
        refine wpAnyH_ready (rs := [9]) (by kernel_rfl) (by simp) (AllReadyH.cons rfl (fun K hK => ?_) AllReadyH.nil)
        simp only [List.getElem_toArray, List.getElem_cons_succ, List.getElem_cons_zero]
        go_simp
        go_at_call 29
        refine Calls.mono (textR_any z ss st HSS.out _ _ w9 ZN9.out (by have := HLB.out; rw [List.length_append, List.length_append, List.length_singleton]; exact this) O9.out) ?_
        rintro e w10 ⟨v10, rfl, ho10, hs10⟩
        have X10 := Lib.hid (X9.out.step hs10)
        have S10 := Lib.hid (S9.out.trans hs10)
        have O10 := Lib.hid ho10
        have OLD10 := Lib.hid (hs10.old (z := z) ZN9.out (fun k hk => by cases hk) (fun k hk => (O9.out.lt hk).1))
        have K10 := Lib.hid (show (fun W => W.cell? ⟨w.heap.size, 4, none⟩ = some (.slice (some ⟨g, o, none⟩) n c) ∧ W.cell? ⟨g, o + k * 4 + 3, none⟩ = some (.string ss)) w10 from ⟨X10.out.c5.2.2.2.2, (OLD10.out.cell HGZ.out).trans K9.out.2⟩)
        clear ho10 hs10
        try go_wp2_with fail
        refine hK.out _ _ (K10.out) (fun hHeld1 => ?_)
        clear hK K hHeld
        have hHeld := hHeld1; clear hHeld1
        try simp only [List.getElem_toArray, List.getElem_cons_succ, List.getElem_cons_zero, Act.put, List.setIfInBounds_toArray, List.set_cons_zero, List.set_cons_succ]
        refine wpAnyH_take (i := 10) (v := ?vB10) rfl (by kernel_rfl) (by kernel_rfl) (by kernel_rfl) (fun _ _ _ h => h) (Or.inl ⟨by rfl, ?yB10⟩) hHeld ?rB10
        case yB10 => (intro W hSw; simp only [List.getElem_toArray, List.getElem_cons_succ, List.getElem_cons_zero]; go_simp; try (with_reducible rfl))
        simp only [List.getElem_toArray, List.getElem_cons_succ, List.getElem_cons_zero, Act.put, List.setIfInBounds_toArray, List.set_cons_zero, List.set_cons_succ]
        refine wpAnyH_done (by kernel_rfl) ?_ _
        clear hHeld
        obtain ⟨c0, c1, c2, c3, c4⟩ := X10.out.c5
        go_wp2_with fail
        go_roundw
        case rel => exact ⟨k + 1, v10, rfl, by rw [← HNL.out]; omega, by go_num, by have := O10.out; rw [HL7.out] at this; rw [HPT.out, att_text, numL_small (show 1 < 128 by decide)]; simpa only [List.append_assoc, List.cons_append, List.nil_append] using this, S10.out, X10.out⟩
        case measure => simp [intOf]; omega
    · have hlz : ¬ (k : Int) < (n : Int) := by omega
      have O7 := Lib.hid (show OB wr z u (l ++ numL pn ++ numL seq ++ numL (zig x) ++ numL (zig y) ++ numL n ++ putAll attF.put at') by have := OR.out; rw [List.take_of_length_le (by rw [← HNL.out]; omega)] at this; exact this)
      obtain ⟨c0, c1, c2, c3, c4⟩ := XR.out.c5
      go_wp2_with fail
      go_ret
      refine ⟨u, rfl, ?_, SR.out⟩
      have := O7.out
      simpa only [List.append_assoc] using this
end Go.Proofs.Ytndgbdbjmogioaa.Wi
