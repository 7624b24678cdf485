/-
  Contracts of few, signed and text of the document's reader for layer 10. All else is left as it was.
-/
import Derived.Test.YtndgbdbjmogioaaWiRfN
import Derived.BigQuiet
namespace Go.Proofs.Ytndgbdbjmogioaa.Wi
open Go.RowKit Go.Proofs.Ytndgbdbjmogioaa.Fl
set_option linter.unusedVariables false
set_option linter.unusedSimpArgs false

theorem numS_err (most : Nat) (s : St) (h : (numS most s).2.1 ≠ 0) : (numS most s).1 = 0 := by
  unfold numS at h ⊢
  by_cases hs : s.1 = 0
  · rw [if_pos hs] at h ⊢
    cases hr : rdN most 0 0 s.2 with
    | bad n => rfl
    | got v r => rw [hr] at h; exact absurd rfl h
  · rw [if_neg hs]
set_option maxHeartbeats 4000000
set_option maxRecDepth 100000
theorem few_rf (p z : Nat) (L : List UInt8) (s : St) (w : World) (hR : RfW w p z L s) :
    Calls Try.prog 34 #[.pointer (some ⟨p, 0, none⟩)] w fun e w' => RfE p z L (.int .i64 ((numS 2147483647 s).1 : Nat)) (numS 2147483647 s).2 w w' e := by
  have C := number_rf p z 2147483647 (by unfold mx; omega) L s w hR
  have hle := numS_le 2147483647 s
  obtain ⟨v, t, hv⟩ : ∃ v t, numS 2147483647 s = (v, t) := ⟨_, _, rfl⟩
  rw [hv] at C hle ⊢
  simp only at C hle ⊢
  have HC := Lib.hid C
  have h31 : (v : Int) ≤ 2147483647 := by omega
  clear hR hv C
  go_enter Try.func34, Try.ntmps34
  go_wp2_with fail
  refine Calls.mono HC.out ?_
  rintro x w2 ⟨rfl, hr, hg⟩
  go_wp2_with fail
  go_ret
  exact ⟨rfl, hr, hg⟩
theorem zag_odd {u : Nat} (h : u < 18446744073709551616) (h1 : u % 2 = 1) : wrap64 (wrap64 (-wrap64 (IntKind.u64.wrap ((u : Int) / 2))) - 1) = zag u := by
  have e0 : IntKind.u64.wrap ((u : Int) / 2) = (u : Int) / 2 := by rw [IntKind.wrap_u64]; omega
  rw [e0]
  clear e0
  have e1 : wrap64 ((u : Int) / 2) = ((u / 2 : Nat) : Int) := by unfold wrap64; omega
  have e2 : wrap64 (-((u / 2 : Nat) : Int)) = -((u / 2 : Nat) : Int) := by unfold wrap64; omega
  rw [e1, e2]
  unfold zag
  rw [if_pos h1]
  clear e1 e2
  unfold wrap64
  omega
theorem zag_even {u : Nat} (h : u < 18446744073709551616) (h1 : ¬ u % 2 = 1) : wrap64 (IntKind.u64.wrap ((u : Int) / 2)) = zag u := by
  have e0 : IntKind.u64.wrap ((u : Int) / 2) = (u : Int) / 2 := by rw [IntKind.wrap_u64]; omega
  rw [e0]
  clear e0
  unfold zag
  rw [if_neg h1]
  unfold wrap64
  omega
theorem sign_rf (p z : Nat) (L : List UInt8) (s : St) (w : World) (hR : RfW w p z L s) :
    Calls Try.prog 35 #[.pointer (some ⟨p, 0, none⟩)] w fun e w' => RfE p z L (.int .i64 (signS s).1) (signS s).2 w w' e := by
  have C := number_rf p z mx (Nat.le_refl _) L s w hR
  have hle := numS_le mx s
  show Calls Try.prog 35 #[.pointer (some ⟨p, 0, none⟩)] w fun e w' => RfE p z L (.int .i64 (zag (numS mx s).1)) (numS mx s).2 w w' e
  obtain ⟨u, t, hv⟩ : ∃ v t, numS mx s = (v, t) := ⟨_, _, rfl⟩
  rw [hv] at C hle ⊢
  simp only at C hle ⊢
  rw [show ((mx : Nat) : Int) = 18446744073709551615 from rfl] at C
  have HC := Lib.hid C
  have HU := Lib.hid (show u < 18446744073709551616 by unfold mx at hle; omega)
  clear hR hv hle C
  by_cases h1 : u % 2 = 1
  · have HZ := Lib.hid (zag_odd HU.out h1)
    have ht : ((u : Int) % 2 == 1) = true := by rw [beq_iff_eq]; omega
    clear h1
    go_enter Try.func35, Try.ntmps35
    go_wp2_with fail
    refine Calls.mono HC.out ?_
    rintro x w2 ⟨rfl, hr, hg⟩
    go_wp2_with fail
    go_ret
    exact ⟨by rw [← HZ.out]; rfl, hr, hg⟩
  · have HZ := Lib.hid (zag_even HU.out h1)
    have ht : ((u : Int) % 2 == 1) = false := by rw [beq_eq_false_iff_ne]; omega
    clear h1
    go_enter Try.func35, Try.ntmps35
    go_wp2_with fail
    refine Calls.mono HC.out ?_
    rintro x w2 ⟨rfl, hr, hg⟩
    go_wp2_with fail
    go_ret
    exact ⟨by rw [← HZ.out]; rfl, hr, hg⟩
theorem run_mid (a : Option Addr) (n c k v : Nat) (hk : k + v ≤ c) (w : World) : (Instr.slice 34 (.slice a n c) (some (.int .i64 (k : Int))) (some (.int .i64 ((k : Int) + (v : Int)))) none).run Try.prog w = .ok (.slice (rest a c k) v (c - k)) w := by
  have hu := Try.underlying34
  have hu2 : Try.prog.underlying 34 = some (.slice (Try.prog.elem 34)) := by rw [elemB]; exact hu
  rw [run_slice_lh (P := Try.prog) w 34 a n c hu2 .i64 .i64 (k : Int) ((k : Int) + (v : Int)) (by omega) (by omega) (by omega), elemB, sizeB]
  have e : k + v - k = v := by omega
  have e2 : ((k : Int) + (v : Int)).toNat = k + v := by omega
  simp [Result.andThen, sliced, rest, e, e2]
theorem rf_cut {W : World} {p z k c v : Nat} {a : Option Addr} {L : List UInt8} {e : Int} (h : Bq W p 71 #[.slice a L.length c, .int .i64 (k : Nat), .int .i64 e]) (hc : L.length ≤ c) (hb : BytesAt W (Old z) a L) (hz : z ≤ p) (hk : k + v ≤ L.length) (he : e = 0 := by rfl) :
    RfW (W.setCell ⟨p, 1, none⟩ (.int .i64 ((k + v : Nat) : Int))) p z L (0, (L.drop k).drop v) := by
  subst he
  exact ⟨a, c, k + v, h.set 1 _, hc, hb.far fun g hg => ⟨hg, Below.heap_setCell _ _ _ _ (by have : g < z := hg; show g ≠ p; omega)⟩, hz, hk, fun _ => by rw [List.drop_drop]⟩
theorem BytesAt.takeF {W : World} {S : Nat → Prop} {a : Option Addr} {l : List UInt8} (h : BytesAt W S a l) {k : Nat} : BytesAt W S a (l.take k) := by
  refine ⟨by rw [List.length_take]; have := h.1; omega, fun h0 => ?_⟩
  rw [List.length_take] at h0
  obtain ⟨g, o, e, hg, hcl⟩ := h.2 (by omega)
  refine ⟨g, o, e, hg, fun j hj => ?_⟩
  rw [List.length_take] at hj
  rw [hcl j (by omega), List.getElem_take]
theorem text_rf (p z most : Nat) (hmost : most ≤ 2147483647) (L : List UInt8) (s : St) (w : World) (hR : RfW w p z L s) :
    Calls Try.prog 36 #[.pointer (some ⟨p, 0, none⟩), .int .i64 (most : Nat)] w fun e w' => RfE p z L (bs (textS most s).1) (textS most s).2 w w' e := by
  have C := number_rf p z most (by unfold mx; omega) L s w hR
  have HX := Lib.hid (wrapU (show (most : Int) = ((most : Nat) : Int) from rfl) (show most < 18446744073709551616 by omega))
  have hle := numS_le most s
  have herr := numS_err most s
  obtain ⟨v, t, hv⟩ : ∃ v t, numS most s = (v, t) := ⟨_, _, rfl⟩
  have HTX := Lib.hid (show textS most s = if t.2.length < v then ([], (if t.1 = 0 then 6 else t.1, t.2)) else (t.2.take v, (t.1, t.2.drop v)) by unfold textS; rw [hv])
  rw [hv] at C hle herr
  simp only at C hle herr
  have h31 : (v : Int) ≤ 2147483647 := by omega
  have HC := Lib.hid C
  have HERR := Lib.hid herr
  clear hR hv C hmost herr
  obtain ⟨e1, l1⟩ := t
  go_enter Try.func36, Try.ntmps36
  go_wp2_with fail
  try rw [HX.out]
  refine Calls.mono HC.out ?_
  rintro x w2 ⟨rfl, hr, hg⟩
  have HR := Lib.hid hr
  have HG := Lib.hid hg
  obtain ⟨a, c, k, h1, h2, h3, h4, h5, h6⟩ := hr
  simp only at h1 h6 HTX
  obtain ⟨c0, c1, c2⟩ := h1.c3
  have hf := h1.fr
  have H1 := Lib.hid h1
  have H2 := Lib.hid h2
  have H3 := Lib.hid h3
  have H4 := Lib.hid h4
  have H5 := Lib.hid h5
  have H6 := Lib.hid h6
  obtain ⟨n, hn⟩ : ∃ n, n = L.length := ⟨_, rfl⟩
  have hm : n ≤ 9223372036854775807 := by have := h3.1; unfold maxLen at this; omega
  have hkn : k ≤ n := by rw [hn]; exact h5
  have HN := Lib.hid hn
  rw [← hn] at c0
  clear h1 h2 h3 h4 h5 h6 hg hn
  by_cases he : e1 = 0
  · subst he
    obtain rfl := H6.out rfl
    have hsub : IntKind.i64.wrap ((n : Int) - (k : Int)) = ((n - k : Nat) : Int) := by rw [IntKind.wrap_i64]; omega
    by_cases hlt : n - k < v
    · have hlz : ((n - k : Nat) : Int) < (v : Int) := by omega
      have HT := Lib.hid (show textS most s = ([], (6, L.drop k)) by rw [HTX.out, if_pos (by rw [List.length_drop, ← HN.out]; exact hlt)]; rfl)
      go_wp2_with fail
      go_quiet (fail)
      go_wp2_with fail
      go_ret
      rw [HT.out]
      exact ⟨rfl, (rf_bad (n := 6) H1.out H2.out H3.out H4.out H5.out (by decide)).as rfl, gr_as (gr_set HG.out 2 (.int .i64 ((6 : Nat) : Int))) rfl rfl rfl rfl⟩
    · have hlz : ¬ ((n - k : Nat) : Int) < (v : Int) := by omega
      have HT := Lib.hid (show textS most s = ((L.drop k).take v, (0, (L.drop k).drop v)) by rw [HTX.out, if_neg (by rw [List.length_drop, ← HN.out]; exact hlt)])
      have hsub2 : IntKind.i64.wrap ((k : Int) + (v : Int) - (v : Int)) = (k : Int) := by rw [IntKind.wrap_i64]; omega
      have hsub3 : IntKind.i64.wrap (k : Int) = (k : Int) := by rw [IntKind.wrap_i64]; omega
      have hkv : k + v ≤ n := by omega
      have hmid := fun W => run_mid a n c k v (by have := H2.out; have := HN.out; omega) W
      have R5 := rf_cut H1.out H2.out H3.out H4.out (v := v) (by have := HN.out; omega)
      have htx := fun W (hW : BytesAt W (Old z) a L) => run_text (rest a c k) (c - k) ((L.drop k).take v) W ((hW.drop (c := c) H5.out H2.out).takeF (k := v))
      obtain ⟨w3, hw3⟩ : ∃ W0 : World, W0 = w2.setCell ⟨p, 1, none⟩ (.int .i64 ((k : Int) + (v : Int))) := ⟨_, rfl⟩
      have R5 : RfW w3 p z L (0, (L.drop k).drop v) := by rw [hw3]; exact R5
      have B3 := Lib.hid (show BytesAt w3 (Old z) a L by rw [hw3]; exact H3.out.far fun g hg => ⟨hg, Below.heap_setCell _ _ _ _ (by have : g < z := hg; have := H4.out; show g ≠ p; omega)⟩)
      have G3 := Lib.hid (show w.grownBy w3 (some p) by rw [hw3]; exact gr_set HG.out _ _)
      have P3 := Lib.hid (show Bq w3 p 71 #[.slice a L.length c, .int .i64 ((k : Int) + (v : Int)), .int .i64 ((0 : Nat) : Int)] by rw [hw3]; exact H1.out.set 1 _)
      have HW3 := Lib.hid hw3
      have R3 := Lib.hid R5
      have HLV := Lib.hid (show ((L.drop k).take v).length = v by rw [List.length_take, List.length_drop]; have := HN.out; omega)
      have HSX := Lib.hid (show ∀ X : World, X.heap = w3.heap → (fun W => W.cell? ⟨p, 0, none⟩ = some (.slice a n c) ∧ W.cell? ⟨p, 1, none⟩ = some (.int .i64 ((k : Int) + (v : Int))) ∧ (convert 34 9 (.slice (rest a c k) v (c - k))).run Try.prog W = .ok (.string ⟨((L.drop k).take v).toArray⟩) W) X from fun X hX => by
        have hP : Bq X p _ _ := (show X.heap[p]? = w3.heap[p]? by rw [hX]).trans P3.out
        obtain ⟨d0, d1, d2⟩ := hP.c3
        refine ⟨by rw [HN.out]; exact d0, d1, ?_⟩
        have h := htx X (B3.out.far fun g hg => ⟨hg, by rw [hX]⟩)
        rw [HLV.out] at h
        exact h)
      clear htx hw3 R5
      go_wp2_with fail
      go_quiet (fail)
      go_wp2_with fail
      refine wp_region_held_drew (S := (fun W => W.cell? ⟨p, 0, none⟩ = some (.slice a n c) ∧ W.cell? ⟨p, 1, none⟩ = some (.int .i64 ((k : Int) + (v : Int))) ∧ (convert 34 9 (.slice (rest a c k) v (c - k))).run Try.prog W = .ok (.string ⟨((L.drop k).take v).toArray⟩) W)) (by kernel_rfl) (HSX.out _ (by rw [HW3.out]; rfl)) (fun hHeld => ?_)
      refine wpAnyH_take (i := 0) (v := ?vT0) rfl (by kernel_rfl) (by kernel_rfl) (by kernel_rfl) (fun _ _ _ h => h) (Or.inl ⟨by rfl, ?yT0⟩) hHeld ?rT0
      case yT0 => (intro W hSw; simp only [List.getElem_toArray, List.getElem_cons_zero]; go_simp; try (with_reducible rfl))
      simp only [List.getElem_toArray, List.getElem_cons_zero, Act.put, List.setIfInBounds_toArray, List.set_cons_zero, List.set_cons_succ]
      refine wpAnyH_take (i := 1) (v := ?vT1) rfl (by kernel_rfl) (by kernel_rfl) (by kernel_rfl) (fun _ _ _ h => h) (Or.inl ⟨by rfl, ?yT1⟩) hHeld ?rT1
      case yT1 => (intro W hSw; simp only [List.getElem_toArray, List.getElem_cons_succ, List.getElem_cons_zero]; go_simp; try (with_reducible rfl))
      simp only [List.getElem_toArray, List.getElem_cons_succ, List.getElem_cons_zero, Act.put, List.setIfInBounds_toArray, List.set_cons_zero, List.set_cons_succ]
      refine wpAnyH_take (i := 2) (v := ?vT2) rfl (by kernel_rfl) (by kernel_rfl) (by kernel_rfl) (fun _ _ _ h => h) (Or.inl ⟨by rfl, ?yT2⟩) hHeld ?rT2
      case yT2 => (intro W hSw; simp only [List.getElem_toArray, List.getElem_cons_succ, List.getElem_cons_zero]; go_simp; try (with_reducible rfl))
      simp only [List.getElem_toArray, List.getElem_cons_succ, List.getElem_cons_zero, Act.put, List.setIfInBounds_toArray, List.set_cons_zero, List.set_cons_succ]
      refine wpAnyH_take (i := 3) (v := ?vT3) rfl (by kernel_rfl) (by kernel_rfl) (by kernel_rfl) (fun _ _ _ h => h) (Or.inl ⟨by rfl, ?yT3⟩) hHeld ?rT3
      case yT3 => (intro W hSw; simp only [List.getElem_toArray, List.getElem_cons_succ, List.getElem_cons_zero]; go_simp; try (with_reducible rfl))
      simp only [List.getElem_toArray, List.getElem_cons_succ, List.getElem_cons_zero, Act.put, List.setIfInBounds_toArray, List.set_cons_zero, List.set_cons_succ]
      refine wpAnyH_take (i := 4) (v := ?vT4) rfl (by kernel_rfl) (by kernel_rfl) (by kernel_rfl) (fun _ _ _ h => h) (Or.inl ⟨by rfl, ?yT4⟩) hHeld ?rT4
      case yT4 => (intro W hSw; simp only [List.getElem_toArray, List.getElem_cons_succ, List.getElem_cons_zero]; go_simp; try (with_reducible rfl))
      simp only [List.getElem_toArray, List.getElem_cons_succ, List.getElem_cons_zero, Act.put, List.setIfInBounds_toArray, List.set_cons_zero, List.set_cons_succ]
      refine wpAnyH_take (i := 5) (v := ?vT5) rfl (by kernel_rfl) (by kernel_rfl) (by kernel_rfl) (fun _ _ _ h => h) (Or.inl ⟨by rfl, ?yT5⟩) hHeld ?rT5
      case yT5 => (intro W hSw; simp only [List.getElem_toArray, List.getElem_cons_succ, List.getElem_cons_zero]; go_simp; try (with_reducible rfl))
      simp only [List.getElem_toArray, List.getElem_cons_succ, List.getElem_cons_zero, Act.put, List.setIfInBounds_toArray, List.set_cons_zero, List.set_cons_succ]
      refine wpAnyH_take (i := 6) (v := ?vT6) rfl (by kernel_rfl) (by kernel_rfl) (by kernel_rfl) (fun _ _ _ h => h) (Or.inl ⟨by rfl, ?yT6⟩) hHeld ?rT6
      case yT6 => (intro W hSw; simp only [List.getElem_toArray, List.getElem_cons_succ, List.getElem_cons_zero]; go_simp; try (with_reducible rfl))
      simp only [List.getElem_toArray, List.getElem_cons_succ, List.getElem_cons_zero, Act.put, List.setIfInBounds_toArray, List.set_cons_zero, List.set_cons_succ]
      refine wpAnyH_take (i := 7) (v := ?vT7) rfl (by kernel_rfl) (by kernel_rfl) (by kernel_rfl) (fun _ _ _ h => h) (Or.inl ⟨by rfl, ?yT7⟩) hHeld ?rT7
      case yT7 => (intro W hSw; simp only [List.getElem_toArray, List.getElem_cons_succ, List.getElem_cons_zero]; go_simp; try (with_reducible rfl))
      simp only [List.getElem_toArray, List.getElem_cons_succ, List.getElem_cons_zero, Act.put, List.setIfInBounds_toArray, List.set_cons_zero, List.set_cons_succ]
      refine wpAnyH_take (i := 8) (v := ?vT8) rfl (by kernel_rfl) (by kernel_rfl) (by kernel_rfl) (fun _ _ _ h => h) (Or.inl ⟨by rfl, ?yT8⟩) hHeld ?rT8
      case yT8 => (intro W hSw; simp only [List.getElem_toArray, List.getElem_cons_succ, List.getElem_cons_zero]; go_simp; try (with_reducible rfl))
      simp only [List.getElem_toArray, List.getElem_cons_succ, List.getElem_cons_zero, Act.put, List.setIfInBounds_toArray, List.set_cons_zero, List.set_cons_succ]
      refine wpAnyH_take (i := 9) (v := ?vT9) rfl (by kernel_rfl) (by kernel_rfl) (by kernel_rfl) (fun _ _ _ h => h) (Or.inl ⟨by rfl, ?yT9⟩) hHeld ?rT9
      case yT9 => (intro W hSw; simp only [List.getElem_toArray, List.getElem_cons_succ, List.getElem_cons_zero]; go_simp; try (with_reducible rfl))
      simp only [List.getElem_toArray, List.getElem_cons_succ, List.getElem_cons_zero, Act.put, List.setIfInBounds_toArray, List.set_cons_zero, List.set_cons_succ]
      refine wpAnyH_take (i := 10) (v := ?vT10) rfl (by kernel_rfl) (by kernel_rfl) (by kernel_rfl) (fun _ _ _ h => h) (Or.inl ⟨by rfl, ?yT10⟩) hHeld ?rT10
      case yT10 => (intro W hSw; simp only [List.getElem_toArray, List.getElem_cons_succ, List.getElem_cons_zero]; go_simp; try (with_reducible rfl))
      simp only [List.getElem_toArray, List.getElem_cons_succ, List.getElem_cons_zero, Act.put, List.setIfInBounds_toArray, List.set_cons_zero, List.set_cons_succ]
      refine wpAnyH_take (i := 11) (v := ?vT11) rfl (by kernel_rfl) (by kernel_rfl) (by kernel_rfl) (fun _ _ _ h => h) (Or.inl ⟨by rfl, ?yT11⟩) hHeld ?rT11
      case yT11 => (intro W hSw; simp only [List.getElem_toArray, List.getElem_cons_succ, List.getElem_cons_zero]; go_simp; try (with_reducible rfl))
      simp only [List.getElem_toArray, List.getElem_cons_succ, List.getElem_cons_zero, Act.put, List.setIfInBounds_toArray, List.set_cons_zero, List.set_cons_succ]
      refine wpAnyH_take (i := 12) (v := ?vT12) rfl (by kernel_rfl) (by kernel_rfl) (by kernel_rfl) (fun _ _ _ h => h) (Or.inl ⟨by rfl, ?yT12⟩) hHeld ?rT12
      case yT12 => (intro W hSw; simp only [List.getElem_toArray, List.getElem_cons_succ, List.getElem_cons_zero]; go_simp; try (with_reducible rfl))
      simp only [List.getElem_toArray, List.getElem_cons_succ, List.getElem_cons_zero, Act.put, List.setIfInBounds_toArray, List.set_cons_zero, List.set_cons_succ]
      refine wpAnyH_take (i := 13) (v := ?vT13) rfl (by kernel_rfl) (by kernel_rfl) (by kernel_rfl) (fun _ _ _ h => h) (Or.inl ⟨by rfl, ?yT13⟩) hHeld ?rT13
      case yT13 => (intro W hSw; simp only [List.getElem_toArray, List.getElem_cons_succ, List.getElem_cons_zero]; go_simp; try (with_reducible rfl))
      simp only [List.getElem_toArray, List.getElem_cons_succ, List.getElem_cons_zero, Act.put, List.setIfInBounds_toArray, List.set_cons_zero, List.set_cons_succ]
      refine wpAnyH_take (i := 14) (v := ?vT14) rfl (by kernel_rfl) (by kernel_rfl) (by kernel_rfl) (fun _ _ _ h => h) (Or.inl ⟨by rfl, ?yT14⟩) hHeld ?rT14
      case yT14 => (intro W hSw; simp only [List.getElem_toArray, List.getElem_cons_succ, List.getElem_cons_zero]; go_simp; try (with_reducible rfl))
      simp only [List.getElem_toArray, List.getElem_cons_succ, List.getElem_cons_zero, Act.put, List.setIfInBounds_toArray, List.set_cons_zero, List.set_cons_succ]
      refine wpAnyH_take (i := 15) (v := ?vT15) rfl (by kernel_rfl) (by kernel_rfl) (by kernel_rfl) (fun _ _ _ h => h) (Or.inl ⟨by rfl, ?yT15⟩) hHeld ?rT15
      case yT15 => (intro W hSw; simp only [List.getElem_toArray, List.getElem_cons_succ, List.getElem_cons_zero]; go_simp; try (with_reducible rfl))
      simp only [List.getElem_toArray, List.getElem_cons_succ, List.getElem_cons_zero, Act.put, List.setIfInBounds_toArray, List.set_cons_zero, List.set_cons_succ]
      refine wpAnyH_take (i := 16) (v := ?vT16) rfl (by kernel_rfl) (by kernel_rfl) (by kernel_rfl) (fun _ _ _ h => h) (Or.inl ⟨by rfl, ?yT16⟩) hHeld ?rT16
      case yT16 => (intro W hSw; simp only [List.getElem_toArray, List.getElem_cons_succ, List.getElem_cons_zero]; go_simp; try (with_reducible rfl))
      simp only [List.getElem_toArray, List.getElem_cons_succ, List.getElem_cons_zero, Act.put, List.setIfInBounds_toArray, List.set_cons_zero, List.set_cons_succ]
      refine wpAnyH_done (by kernel_rfl) ?_ _
      go_wp2_with fail
      go_ret
      rw [HT.out]
      exact ⟨rfl, R3.out.as (by rw [HW3.out]; rfl), gr_as G3.out (by rw [HW3.out]; rfl) (by rw [HW3.out]; rfl) (by rw [HW3.out]; rfl) (by rw [HW3.out]; rfl)⟩
  · have hv0 : v = 0 := HERR.out he
    subst hv0
    have HT := Lib.hid (show textS most s = ([], (e1, l1)) by rw [HTX.out, if_neg (by omega)]; rfl)
    have hez : ((e1 : Int) == 0) = false := by rw [beq_eq_false_iff_ne]; omega
    have hez2 : ((e1 : Int) != 0) = true := by rw [bne_iff_ne]; omega
    clear he
    go_wp2_with fail
    go_quiet (fail)
    go_wp2_with fail
    go_ret
    rw [HT.out]
    exact ⟨rfl, HR.out.as rfl, gr_as HG.out rfl rfl rfl rfl⟩
end Go.Proofs.Ytndgbdbjmogioaa.Wi
