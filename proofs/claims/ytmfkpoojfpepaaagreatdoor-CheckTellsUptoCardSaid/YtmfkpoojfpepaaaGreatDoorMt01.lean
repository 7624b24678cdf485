/-
  Contracts: may a schema be (the document's Schema). Memory that was there is left as it was.
-/
import Derived.Test.YtmfkpoojfpepaaaGreatDoorMp15
import Derived.BigQuiet
import Derived.Test.YtmfkpoojfpepaaaGreatDoorMp09
import Derived.Test.YtmfkpoojfpepaaaGreatDoorMp10
import Derived.Laws.Cover1
/-
  Contract of the document's answer Names: a filter's names, rising, each once, in a row of the call's own. Memory that was there is left as it was.
-/
namespace Go.Proofs.YtmfkpoojfpepaaaGreatDoor.Ck
open Go.RowKit Go.Proofs.YtmfkpoojfpepaaaGreatDoor.Fl Go.Proofs.YtmfkpoojfpepaaaGreatDoor.Tk
set_option linter.unusedVariables false
set_option linter.unusedSimpArgs false

theorem run_emptyS (w : World) {i0 : TypeInfo} (hi : Tryz.prog.info? 9 = some i0) : (Instr.buildSlice 22 0 #[]).run Tryz.prog w = .ok (.slice (some ⟨w.heap.size, 0, none⟩) 0 0) (w.alloc (.cells #[] 9)) := by
  have hu := Tryz.underlying22
  simp [Instr.buildSlice, run_underlying hu, sizeOf, typeInfo, hi, newRow, Instr.fill]
  rw [show Array.range 0 = (#[] : Array Nat) by decide]
  simp
theorem own_emptyS (W : World) : (W.alloc (.cells #[] 9)).ownsRow W.heap.size 9 1 (.slice (some ⟨W.heap.size, 0, none⟩) 0 0) 0 [] :=
  ⟨rfl, Or.inr ⟨W.heap.size, 0, #[], rfl, Nat.le_refl _, heap_alloc_new W _, Nat.le_refl _, Nat.zero_le _, rfl, rfl⟩⟩
theorem row_alloc {W : World} {base n k : Nat} {t : TypeId} {v : Value} {xs : List Value} (h : W.ownsRow base t k v n xs) (o : Obj) : (W.alloc o).ownsRow base t k v n xs :=
  rowKeep h fun g hg => Below.heap_alloc _ _ _ (rowLt h hg).2
theorem row_later {W V : World} {base n k : Nat} {t : TypeId} {v : Value} {xs : List Value} (h : W.ownsRow base t k v n xs) (hb : Below W.heap.size W V) : V.ownsRow base t k v n xs :=
  rowKeep h fun g hg => hb.block g (rowLt h hg).2
/-- Behind an append to a row of one's own, what lay below the row's base is as it was. -/
theorem row_grown {W V : World} {base n k : Nat} {t : TypeId} {v : Value} {xs : List Value} (h : W.ownsRow base t k v n xs) (hb : base ≤ W.heap.size) (hg : W.grownBy V v.ownBlock) : Below base W V :=
  ⟨hg.os, hg.tape, hg.output, hg.size, fun i hi => hg.block i (Nat.lt_of_lt_of_le hi hb) (by
    intro e
    have := (rowLt h e.symm).1
    omega)⟩
def RoR (L : List Nm) (w : World) (vo vi : Value) (wr : World) : Prop :=
  ∃ j : Nat, j ≤ L.length ∧ vi = .int .i64 j ∧ wr.ownsRow w.heap.size 9 1 vo (sortN (L.take j)).length ((sortN (L.take j)).map bs) ∧ Hid (sortN (L.take j) = [] → vo = .slice none 0 0) ∧ Below w.heap.size w wr
def LsR (S : List Nm) (x : Nm) (w : World) (vk : Value) (wr : World) : Prop :=
  ∃ k : Nat, k ≤ S.length ∧ vk = .int .i64 k ∧ Hid (∀ i y, i < k → S[i]? = some y → y < x) ∧ Below w.heap.size w wr
theorem sort_step {L : List Nm} {j : Nat} {U : Nm} (h : L[j]? = some U) : sortN (L.take (j + 1)) = insN (sortN (L.take j)) U := by
  rw [List.take_add_one, h]
  exact sortN_snoc _ _
set_option maxHeartbeats 20000000 in
set_option maxRecDepth 100000 in
theorem refNames_any (f : Flt) (a : Option Addr) (c : Nat) (b : Option Addr) (d : Nat) (w : World) (hF : FltAt w (Old w.heap.size) f a b) (h2 : (nms f).length ≤ 2000000) (h40 : ∀ x ∈ nms f, x.length ≤ 281474976710656) :
    Calls Tryz.prog 10 #[.agg #[.int .i64 f.kind, bs f.name, bs f.op, .slice a f.vals.length c, .slice b f.parts.length d]] w fun e w' => NamesEnd w.heap.size (sortN (nms f)) w' e ∧ Below w.heap.size w w' := by
  obtain ⟨i0, hi, hz0, hz1, hz2⟩ := info_cut infoS
  have hbe := fun W => run_emptyS W hi
  have CN := Lib.hid (fun W h1 => rn_all (sz f) f (Nat.le_refl _) a c b d W h1 h2)
  obtain ⟨sn, en, hsn⟩ := bs_bytes f.name
  obtain ⟨so, eo, hso⟩ := bs_bytes f.op
  rw [en, eo] at CN ⊢
  obtain ⟨k, hk⟩ : ∃ x, x = f.kind := ⟨_, rfl⟩
  obtain ⟨nv, hnv⟩ : ∃ x, x = f.vals.length := ⟨_, rfl⟩
  obtain ⟨np, hnp⟩ : ∃ x, x = f.parts.length := ⟨_, rfl⟩
  rw [← hk, ← hnv, ← hnp] at CN ⊢
  have HF := Lib.hid hF
  obtain ⟨L, hL⟩ : ∃ x, x = nms f := ⟨_, rfl⟩
  have H40 := Lib.hid (show ∀ x ∈ L, x.length ≤ maxLen by intro x hx; rw [hL] at hx; have := h40 x hx; unfold maxLen; omega)
  have HLS := Lib.hid (show L.length ≤ 2000000 by rw [hL]; exact h2)
  rw [← hL] at CN ⊢
  clear hF h2 h40 hk hnv hnp hL en eo hsn hso
  obtain ⟨w1, hw1⟩ : ∃ v, v = w.alloc (.cells #[.int .i64 k, .string sn, .string so, .slice a nv c, .slice b np d] 27) := ⟨_, rfl⟩
  have HB := Lib.hid (show Below w.heap.size w w1 by rw [hw1]; exact (Below.refl _ _).alloc (Nat.le_refl _) _)
  have HW := Lib.hid hw1
  clear hw1
  go_enter Tryz.func10, Tryz.ntmps10
  go_wp2_with fail
  rw [← HW.out]
  refine Calls.mono (CN.out _ ((HF.out.later HB.out).wide HB.out.size)) ?_
  rintro e w4 ⟨⟨v, rfl, hrow, _⟩, hb⟩
  obtain ⟨aa, ca, rfl, hall⟩ := row_nms hrow H40.out (by have := HLS.out; unfold maxLen; omega)
  have B4 := Lib.hid (HB.out.trans (hb.mono HB.out.size))
  have HALL := Lib.hid hall
  obtain ⟨na, hna⟩ : ∃ x, x = L.length := ⟨_, rfl⟩
  have HNA := Lib.hid hna
  have hnab : na ≤ 2000000 := by have := HLS.out; omega
  rw [← hna]
  clear hb hrow hall hna
  go_wp2_with fail
  go_loopw [3, 5] (fun vo vi wr => RoR L w4 vo vi wr) (fun _ vi _ => na - (intOf vi).toNat)
  case atStart => exact ⟨0, Nat.zero_le _, rfl, World.ownsRow_nil w4 _ _ _, Lib.hid (fun _ => rfl), Below.refl _ _⟩
  case round =>
    obtain ⟨j, hk, rfl, hrow, hnil, hBB⟩ := hrel
    have HK := Lib.hid hk
    have HBB := Lib.hid hBB
    have HROW := Lib.hid hrow
    have HNIL := Lib.hid hnil.out
    clear hk hBB hrow hnil
    by_cases hlt : j < na
    · have hlz : (j : Int) < (na : Int) := by omega
      have hku : j < L.length := by rw [← HNA.out]; exact hlt
      obtain ⟨g4, o4, hg, hgl, hc⟩ := HALL.out.2.2 (by omega)
      have HC := Lib.hid (hc j hku)
      obtain ⟨U, hU⟩ : ∃ V, V = L[j] := ⟨_, rfl⟩
      have HUK := Lib.hid (show L[j]? = some U by rw [hU]; exact List.getElem?_eq_getElem hku)
      rw [← hU] at HC
      obtain ⟨s1, q1, f1⟩ := bs_bytes U
      rw [q1] at HC
      have HS1 := Lib.hid f1
      have HQ1 := Lib.hid q1
      have HG4 := Lib.hid (show g4 < w4.heap.size from hgl)
      have HCL := Lib.hid (show ∀ W, Below w4.heap.size w4 W → W.cell? ⟨g4, o4 + j, none⟩ = some (.string s1) from fun W hW => (hW.cell (p := ⟨g4, o4 + j, none⟩) HG4.out).trans HC.out)
      have HSTEP := Lib.hid (sort_step HUK.out)
      have HLEN := Lib.hid (show (sortN (L.take j)).length ≤ 2000000 by have h1 := length_sortN (L.take j); have h2 := HLS.out; rw [List.length_take] at h1; omega)
      obtain ⟨S, hS⟩ : ∃ x, x = sortN (L.take j) := ⟨_, rfl⟩
      rw [← hS] at HROW HNIL HSTEP HLEN
      subst hg
      clear hc hU q1 f1 hgl hS hlt
      obtain ⟨n, hn⟩ : ∃ n, n = S.length := ⟨_, rfl⟩
      have HN := Lib.hid hn
      rw [← hn] at HROW HLEN
      have hn2 : n ≤ 2000000 := HLEN.out
      clear hn
      by_cases h0 : S = []
      · have HS0 := Lib.hid h0
        obtain rfl := HNIL.out h0
        obtain rfl : n = 0 := by rw [HN.out, h0]; rfl
        have HSL := Lib.hid (show sortN (L.take (j + 1)) = [U] by rw [HSTEP.out, h0]; rfl)
        clear h0
        go_wp2_with fail
        refine wp_loop_rounds 1 ?_
        rw [rounds_succ]
        go_wp2_with fail
        go_big_quiet (fail)
        all_goals
          obtain ⟨w5, hw5⟩ : ∃ v, v = wr.drewN nq := ⟨_, rfl⟩
          have HB5 := Lib.hid (show Below w4.heap.size w4 w5 by rw [hw5]; exact below_drewN HBB.out _)
          rw [← hw5]
          clear hw5
          obtain ⟨w6, hw6⟩ : ∃ v, v = (w5.alloc (.cells #[] 9)).alloc (.cells #[.string s1] 9) := ⟨_, rfl⟩
          have hs5 : (w5.alloc (.cells #[] 9)).heap.size = w5.heap.size + 1 := by simp
          have HB56 := Lib.hid (show Below w5.heap.size w5 w6 by rw [hw6]; exact ((Below.refl _ _).alloc (Nat.le_refl _) _).alloc (by rw [hs5]; omega) _)
          have HR6 := Lib.hid (show w6.ownsRow w5.heap.size 9 1 (.slice (some ⟨w5.heap.size, 0, none⟩) 0 0) 0 [] by rw [hw6]; exact row_alloc (own_emptyS w5) _)
          have HN6 := Lib.hid (show ∀ j u, [Value.string s1][j]? = some u → w6.cell? ((⟨w5.heap.size + 1, 0, none⟩ : Addr).add j) = some u by rw [hw6, ← hs5]; exact cell_one_new _ _ _)
          have HW6 := Lib.hid hw6
          have hc1 := HCL.out _ HB5.out
          have hgl5 : g4 < w5.heap.size := Nat.lt_of_lt_of_le HG4.out HB5.out.size
          clear hw6 hs5
          go_wp2_with (first
            | (at_builtin; refine wpList_append_own_none rfl _ _ 22 rfl w5.heap.size 9 i0 1 Tryz.underlying22 hi _ _ _ rfl (own_emptyS w5) rfl ?_)
            | (at_builtin; rw [← HW6.out]; refine wpList_append_own_at _ rfl _ _ 22 rfl w5.heap.size 9 i0 (.string ⟨#[]⟩) 1 16 Tryz.underlying22 hi hz0 hz1 hz2 rfl (by decide) _ _ _ rfl HR6.out ⟨w5.heap.size + 1, 0, none⟩ 1 1 [.string s1] rfl rfl HN6.out (by intro u hu; simp at hu; rw [hu]; rfl) (by unfold maxLen; omega) (by omega) HB56.out.size ?_)
            | go_in)
          intro v7 w7 hr7 hg7 hn7 ha7
          have HB7 := Lib.hid (HB5.out.trans ((HB56.out.trans (row_grown HR6.out HB56.out.size hg7)).mono HB5.out.size))
          have HR7 := Lib.hid (row_wide hr7 HB5.out.size)
          clear hg7 hn7 ha7
          go_wp2_with (first
            | (at_builtin; refine wpList_append_own_none rfl _ _ 22 rfl w5.heap.size 9 i0 1 Tryz.underlying22 hi _ _ _ rfl hr7 rfl ?_)
            | go_in)
          go_roundw
          case rel =>
            refine ⟨j + 1, by have := HNA.out; omega, by go_num, ?_, Lib.hid ?_, HB7.out⟩
            · rw [HSL.out]
              simpa [HQ1.out] using HR7.out
            · intro h; rw [HSL.out] at h; cases h
          case measure => simp [intOf]; omega
      · have hp : 0 < n := by rw [HN.out]; exact List.length_pos_iff.2 h0
        obtain ⟨g, cap, hvo, hnc, hcap⟩ : ∃ g cap, u3 = .slice (some ⟨g, 0, none⟩) n cap ∧ n ≤ cap ∧ cap ≤ maxLen := by
          rcases HROW.out.2 with ⟨_, h⟩ | ⟨g2, c2, cur, e, _, _, h5, h6, _⟩
          · omega
          · exact ⟨g2, c2, e, h5, h6⟩
        subst hvo
        have HGL := Lib.hid (rowLt HROW.out (g := g) rfl)
        have HRC := Lib.hid (show ∀ W, Below wr.heap.size wr W → ∀ i, i < n → W.cell? ⟨g, i, none⟩ = (S.map bs)[i]? from fun W hW i hi => ((row_later HROW.out hW).cellAt i (by omega)))
        clear h0 HNIL
        go_wp2_with fail
        go_loopw [6] (fun vk wk => LsR S U wr vk wk) (fun vk _ => n - (intOf vk).toNat)
        case atStart => exact ⟨0, Nat.zero_le _, rfl, Lib.hid (fun i y hi => by omega), Below.refl _ _⟩
        case round =>
          obtain ⟨k2, hk2, rfl, hles, hBK⟩ := hrel
          have HK2 := Lib.hid hk2
          have HBK := Lib.hid hBK
          have HLES := Lib.hid hles.out
          clear hk2 hBK hles
          by_cases hkt : k2 < n
          · have hkz : (k2 : Int) < (n : Int) := by omega
            have hks : k2 < S.length := by rw [← HN.out]; exact hkt
            have cS := HRC.out _ HBK.out k2 hkt
            have cL := HCL.out _ (HBB.out.trans (HBK.out.mono HBB.out.size))
            obtain ⟨Z, hZ⟩ : ∃ V, V = S[k2] := ⟨_, rfl⟩
            have HZK := Lib.hid (show S[k2]? = some Z by rw [hZ]; exact List.getElem?_eq_getElem hks)
            rw [List.getElem?_map, HZK.out, Option.map_some] at cS
            obtain ⟨s2, q2, f2⟩ := bs_bytes Z
            rw [q2] at cS
            have hbl := bytes_lt f2 HS1.out
            have HS2 := Lib.hid f2
            have HQ2 := Lib.hid q2
            clear hZ q2 f2
            by_cases hzu : Z < U
            · rw [decide_eq_true hzu] at hbl
              have HZU := Lib.hid hzu
              clear hzu
              go_wp2_with fail
              go_big_quiet (fail)
              all_goals
                go_wp2_with fail
                go_roundw
                case rel =>
                  exact ⟨k2 + 1, by have := HN.out; omega, by go_num, Lib.hid (fun i y hi hy => by
                    rcases Nat.lt_or_ge i k2 with h | h
                    · exact HLES.out i y h hy
                    · obtain rfl : i = k2 := by omega
                      rw [HZK.out] at hy
                      cases hy
                      exact HZU.out), below_drewN HBK.out _⟩
                case measure => simp [intOf]; omega
            · rw [decide_eq_false hzu] at hbl
              have HZU := Lib.hid hzu
              clear hzu
              have HIN := Lib.hid (insN_at (x := U) S k2 (by omega) HLES.out (fun y hy => by rw [HZK.out] at hy; cases hy; exact HZU.out))
              by_cases he : s2.data.toList = s1.data.toList
              · obtain rfl := eq_list he
                have HSL := Lib.hid (show sortN (L.take (j + 1)) = S by rw [HSTEP.out, HIN.out, if_pos (by rw [HZK.out, ← HS2.out, HS1.out])])
                clear he
                go_wp2_with fail
                go_big_quiet (fail)
                all_goals
                  go_wp2_with fail
                  go_big_quiet (fail)
                  all_goals
                    go_wp2_with fail
                    go_roundw
                    case rel =>
                      refine ⟨j + 1, by have := HNA.out; omega, by go_num, ?_, Lib.hid ?_, below_drewN (HBB.out.trans (HBK.out.mono HBB.out.size)) _⟩
                      · rw [HSL.out, ← HN.out]
                        exact row_later HROW.out (below_drewN HBK.out _)
                      · intro h; rw [HSL.out] at h; have := HN.out; rw [h] at this; simp at this; omega
                    case measure => simp [intOf]; omega
              · obtain ⟨q0, q1, q2⟩ := ne_list he
                have HSL := Lib.hid (show sortN (L.take (j + 1)) = S.take k2 ++ U :: S.drop k2 by rw [HSTEP.out, HIN.out, if_neg (by rw [HZK.out]; intro h; cases h; exact he (by rw [HS2.out, HS1.out]))])
                clear he
                go_wp2_with fail
                go_big_quiet (fail)
                all_goals
                  obtain ⟨wA, hwA⟩ : ∃ v, v = wr.drewN nq := ⟨_, rfl⟩
                  have HBKA := Lib.hid (show Below _ _ wA by rw [hwA]; exact below_drewN HBK.out _)
                  have cSA := HRC.out _ HBKA.out k2 hkt
                  rw [List.getElem?_map, HZK.out, Option.map_some, HQ2.out] at cSA
                  have cLA := HCL.out _ (HBB.out.trans (HBKA.out.mono HBB.out.size))
                  rw [← hwA]
                  clear hwA nq
                  go_wp2_with fail
                  go_big_quiet (fail)
                  all_goals
                    obtain ⟨w5, hw5⟩ : ∃ v, v = wA.drewN nq := ⟨_, rfl⟩
                    have HBK5 := Lib.hid (show Below _ _ w5 by rw [hw5]; exact below_drewN HBKA.out _)
                    rw [← hw5]
                    clear hw5 cSA cLA
                    have HB5 := Lib.hid (HBB.out.trans (HBK5.out.mono HBB.out.size))
                    have HRV5 := Lib.hid (row_later HROW.out HBK5.out)
                    obtain ⟨w6, hw6⟩ : ∃ v, v = w5.alloc (.cells #[] 9) := ⟨_, rfl⟩
                    have HB56 := Lib.hid (show Below w5.heap.size w5 w6 by rw [hw6]; exact (Below.refl _ _).alloc (Nat.le_refl _) _)
                    have HR6 := Lib.hid (show w6.ownsRow w5.heap.size 9 1 (.slice (some ⟨w5.heap.size, 0, none⟩) 0 0) 0 [] by rw [hw6]; exact own_emptyS w5)
                    have HV6 := Lib.hid (row_later HRV5.out HB56.out)
                    have HN6 := Lib.hid (show ∀ i u, ((S.take k2).map bs)[i]? = some u → w6.cell? ((⟨g, 0, none⟩ : Addr).add i) = some u by
                      intro i u hu
                      have hi : i < k2 := by
                        have := (List.getElem?_eq_some_iff.1 hu).1
                        rw [List.length_map, List.length_take] at this
                        omega
                      rw [show ((⟨g, 0, none⟩ : Addr).add i) = ⟨g, i, none⟩ by rw [WideShapes.add_plain, Nat.zero_add], HV6.out.cellAt i (by omega)]
                      rw [List.getElem?_map, List.getElem?_take, if_pos hi] at hu
                      rw [List.getElem?_map]
                      exact hu)
                    have HW6 := Lib.hid hw6
                    clear hw6
                    go_wp2_with (first
                      | (at_builtin; rw [← HW6.out]; refine wpList_append_own_at _ rfl _ _ 22 rfl w5.heap.size 9 i0 (.string ⟨#[]⟩) 1 16 Tryz.underlying22 hi hz0 hz1 hz2 rfl (by decide) _ _ _ rfl HR6.out ⟨g, 0, none⟩ k2 cap ((S.take k2).map bs) rfl (by rw [List.length_map, List.length_take]; have := HN.out; omega) HN6.out (bs_one _) (by unfold maxLen; omega) (by omega) HB56.out.size ?_)
                      | go_in)
                    intro v1 w7 hr1 hg1 hn1 ha1
                    have HB67 := Lib.hid (row_grown HR6.out HB56.out.size hg1)
                    have HB57 := Lib.hid (HB56.out.trans HB67.out)
                    have HB7 := Lib.hid (HB5.out.trans (HB57.out.mono HB5.out.size))
                    have hc7 := HCL.out _ HB7.out
                    have hgl7 : g4 < w7.heap.size := Nat.lt_of_lt_of_le HG4.out HB7.out.size
                    obtain ⟨w8, hw8⟩ : ∃ v, v = w7.alloc (.cells #[.string s1] 9) := ⟨_, rfl⟩
                    have HB78 := Lib.hid (show Below w7.heap.size w7 w8 by rw [hw8]; exact (Below.refl _ _).alloc (Nat.le_refl _) _)
                    have HR8 := Lib.hid (show w8.ownsRow w5.heap.size 9 1 v1 _ _ by rw [hw8]; exact row_alloc hr1 _)
                    have HN8 := Lib.hid (show ∀ j u, [Value.string s1][j]? = some u → w8.cell? ((⟨w7.heap.size, 0, none⟩ : Addr).add j) = some u by rw [hw8]; exact cell_one_new _ _ _)
                    have HW8 := Lib.hid hw8
                    have HB58 := Lib.hid (HB57.out.trans (HB78.out.mono HB57.out.size))
                    clear hg1 hn1 ha1 hr1 hw8
                    go_wp2_with (first
                      | (at_builtin; rw [← HW8.out]; refine wpList_append_own_at _ rfl _ _ 22 rfl w5.heap.size 9 i0 (.string ⟨#[]⟩) 1 16 Tryz.underlying22 hi hz0 hz1 hz2 rfl (by decide) _ _ _ rfl HR8.out ⟨w7.heap.size, 0, none⟩ 1 1 [.string s1] rfl rfl HN8.out (by intro u hu; simp at hu; rw [hu]; rfl) (by unfold maxLen; omega) (by omega) HB58.out.size ?_)
                      | go_in)
                    intro v2 w9 hr2 hg2 hn2 ha2
                    have HB89 := Lib.hid (row_grown HR8.out HB58.out.size hg2)
                    have HB59 := Lib.hid (HB58.out.trans HB89.out)
                    have HB9 := Lib.hid (HB5.out.trans (HB59.out.mono HB5.out.size))
                    have HV9 := Lib.hid (row_later HRV5.out HB59.out)
                    have HR9 := Lib.hid hr2
                    clear hg2 hn2 ha2 hr2
                    have hkc : ¬ cap = k2 := by omega
                    have hkc2 : ¬ cap - k2 = 0 := by omega
                    have HND := Lib.hid (show ∀ i u, ((S.drop k2).map bs)[i]? = some u → w9.cell? ((⟨g, k2, none⟩ : Addr).add i) = some u by
                      intro i u hu
                      have hi : k2 + i < n := by
                        have := (List.getElem?_eq_some_iff.1 hu).1
                        rw [List.length_map, List.length_drop] at this
                        have := HN.out
                        omega
                      rw [WideShapes.add_plain, HV9.out.cellAt (k2 + i) (by omega)]
                      rw [List.getElem?_map, List.getElem?_drop] at hu
                      rw [List.getElem?_map]
                      exact hu)
                    go_wp2_with (first
                      | (at_builtin; refine wpList_append_own_at _ rfl _ _ 22 rfl w5.heap.size 9 i0 (.string ⟨#[]⟩) 1 16 Tryz.underlying22 hi hz0 hz1 hz2 rfl (by decide) _ _ _ rfl HR9.out ⟨g, k2, none⟩ (n - k2) (cap - k2) ((S.drop k2).map bs) rfl (by rw [List.length_map, List.length_drop]; have := HN.out; omega) HND.out (bs_one _) (by unfold maxLen; omega) (by omega) HB59.out.size ?_)
                      | go_in)
                    intro v3 w10 hr3 hg3 hn3 ha3
                    have HB10 := Lib.hid (HB5.out.trans ((HB59.out.trans (row_grown HR9.out HB59.out.size hg3)).mono HB5.out.size))
                    have HR10 := Lib.hid (row_wide hr3 HB5.out.size)
                    clear hg3 hn3 ha3 hr3
                    go_wp2_with fail
                    go_roundw
                    case rel =>
                      refine ⟨j + 1, by have := HNA.out; omega, by go_num, ?_, Lib.hid ?_, HB10.out⟩
                      · rw [HSL.out]
                        have h := HR10.out
                        have e1 : (S.take k2 ++ U :: S.drop k2).length = k2 + 1 + (n - k2) := by rw [List.length_append, List.length_cons, List.length_take, List.length_drop]; have := HN.out; omega
                        have e2 : (S.take k2 ++ U :: S.drop k2).map bs = List.take k2 (List.map bs S) ++ ([.string s1] ++ List.map bs (List.drop k2 S)) := by simp [HQ1.out]
                        rw [e1, e2]
                        first | exact h | simpa using h
                      · intro h; rw [HSL.out] at h; simp at h
                    case measure => simp [intOf]; omega
          · have hkz : ¬ (k2 : Int) < (n : Int) := by omega
            obtain rfl : k2 = n := by have := HN.out; have := HK2.out; omega
            have HSL := Lib.hid (show sortN (L.take (j + 1)) = S.take k2 ++ U :: S.drop k2 by
              rw [HSTEP.out, insN_at (x := U) S k2 (by have := HN.out; omega) HLES.out (fun y hy => by rw [List.getElem?_eq_none (by have := HN.out; omega)] at hy; cases hy), if_neg (by rw [List.getElem?_eq_none (by have := HN.out; omega)]; simp)])
            have HDN := Lib.hid (show S.drop k2 = [] from List.drop_eq_nil_of_le (by have := HN.out; omega))
            go_wp2_with fail
            go_big_quiet (fail)
            all_goals
              obtain ⟨w5, hw5⟩ : ∃ v, v = wr.drewN nq := ⟨_, rfl⟩
              have HBK5 := Lib.hid (show Below _ _ w5 by rw [hw5]; exact below_drewN HBK.out _)
              rw [← hw5]
              clear hw5
              have HB5 := Lib.hid (HBB.out.trans (HBK5.out.mono HBB.out.size))
              have HRV5 := Lib.hid (row_later HROW.out HBK5.out)
              obtain ⟨w6, hw6⟩ : ∃ v, v = w5.alloc (.cells #[] 9) := ⟨_, rfl⟩
              have HB56 := Lib.hid (show Below w5.heap.size w5 w6 by rw [hw6]; exact (Below.refl _ _).alloc (Nat.le_refl _) _)
              have HR6 := Lib.hid (show w6.ownsRow w5.heap.size 9 1 (.slice (some ⟨w5.heap.size, 0, none⟩) 0 0) 0 [] by rw [hw6]; exact own_emptyS w5)
              have HV6 := Lib.hid (row_later HRV5.out HB56.out)
              have HN6 := Lib.hid (show ∀ i u, ((S.take k2).map bs)[i]? = some u → w6.cell? ((⟨g, 0, none⟩ : Addr).add i) = some u by
                intro i u hu
                have hi : i < k2 := by
                  have := (List.getElem?_eq_some_iff.1 hu).1
                  rw [List.length_map, List.length_take] at this
                  omega
                rw [show ((⟨g, 0, none⟩ : Addr).add i) = ⟨g, i, none⟩ by rw [WideShapes.add_plain, Nat.zero_add], HV6.out.cellAt i (by omega)]
                rw [List.getElem?_map, List.getElem?_take, if_pos hi] at hu
                rw [List.getElem?_map]
                exact hu)
              have HW6 := Lib.hid hw6
              clear hw6
              go_wp2_with (first
                | (at_builtin; rw [← HW6.out]; refine wpList_append_own_at _ rfl _ _ 22 rfl w5.heap.size 9 i0 (.string ⟨#[]⟩) 1 16 Tryz.underlying22 hi hz0 hz1 hz2 rfl (by decide) _ _ _ rfl HR6.out ⟨g, 0, none⟩ k2 cap ((S.take k2).map bs) rfl (by rw [List.length_map, List.length_take]; have := HN.out; omega) HN6.out (bs_one _) (by unfold maxLen; omega) (by omega) HB56.out.size ?_)
                | go_in)
              intro v1 w7 hr1 hg1 hn1 ha1
              have HB67 := Lib.hid (row_grown HR6.out HB56.out.size hg1)
              have HB57 := Lib.hid (HB56.out.trans HB67.out)
              have HB7 := Lib.hid (HB5.out.trans (HB57.out.mono HB5.out.size))
              have hc7 := HCL.out _ HB7.out
              have hgl7 : g4 < w7.heap.size := Nat.lt_of_lt_of_le HG4.out HB7.out.size
              obtain ⟨w8, hw8⟩ : ∃ v, v = w7.alloc (.cells #[.string s1] 9) := ⟨_, rfl⟩
              have HB78 := Lib.hid (show Below w7.heap.size w7 w8 by rw [hw8]; exact (Below.refl _ _).alloc (Nat.le_refl _) _)
              have HR8 := Lib.hid (show w8.ownsRow w5.heap.size 9 1 v1 _ _ by rw [hw8]; exact row_alloc hr1 _)
              have HN8 := Lib.hid (show ∀ j u, [Value.string s1][j]? = some u → w8.cell? ((⟨w7.heap.size, 0, none⟩ : Addr).add j) = some u by rw [hw8]; exact cell_one_new _ _ _)
              have HW8 := Lib.hid hw8
              have HB58 := Lib.hid (HB57.out.trans (HB78.out.mono HB57.out.size))
              clear hg1 hn1 ha1 hr1 hw8
              go_wp2_with (first
                | (at_builtin; rw [← HW8.out]; refine wpList_append_own_at _ rfl _ _ 22 rfl w5.heap.size 9 i0 (.string ⟨#[]⟩) 1 16 Tryz.underlying22 hi hz0 hz1 hz2 rfl (by decide) _ _ _ rfl HR8.out ⟨w7.heap.size, 0, none⟩ 1 1 [.string s1] rfl rfl HN8.out (by intro u hu; simp at hu; rw [hu]; rfl) (by unfold maxLen; omega) (by omega) HB58.out.size ?_)
                | go_in)
              intro v2 w9 hr2 hg2 hn2 ha2
              have HB89 := Lib.hid (row_grown HR8.out HB58.out.size hg2)
              have HB59 := Lib.hid (HB58.out.trans HB89.out)
              have HB9 := Lib.hid (HB5.out.trans (HB59.out.mono HB5.out.size))
              have HV9 := Lib.hid (row_later HRV5.out HB59.out)
              have HR9 := Lib.hid hr2
              clear hg2 hn2 ha2 hr2
              by_cases hkc : cap = k2
              · have hkc2 : cap - k2 = 0 := by omega
                go_wp2_with (first
                  | (at_builtin; refine wpList_append_own_at _ rfl _ _ 22 rfl w5.heap.size 9 i0 (.string ⟨#[]⟩) 1 16 Tryz.underlying22 hi hz0 hz1 hz2 rfl (by decide) _ _ _ rfl HR9.out ⟨g, 0, none⟩ 0 0 [] rfl (by simp) (by intro i u hu; simp at hu) (by intro u hu; simp at hu) (by unfold maxLen; omega) (by omega) HB59.out.size ?_)
                  | go_in)
                intro v3 w10 hr3 hg3 hn3 ha3
                have HB10 := Lib.hid (HB5.out.trans ((HB59.out.trans (row_grown HR9.out HB59.out.size hg3)).mono HB5.out.size))
                have HR10 := Lib.hid (row_wide hr3 HB5.out.size)
                clear hg3 hn3 ha3 hr3
                go_wp2_with fail
                go_roundw
                case rel =>
                  refine ⟨j + 1, by have := HNA.out; omega, by go_num, ?_, Lib.hid ?_, HB10.out⟩
                  · rw [HSL.out]
                    have h := HR10.out
                    have e1 : (S.take k2 ++ U :: S.drop k2).length = k2 + 1 := by rw [List.length_append, List.length_cons, List.length_take, List.length_drop]; have := HN.out; omega
                    have e2 : (S.take k2 ++ U :: S.drop k2).map bs = (S.map bs).take k2 ++ [.string s1] := by simp [HQ1.out, HDN.out]
                    rw [e1, e2]
                    exact h
                  · intro h; rw [HSL.out] at h; simp at h
                case measure => simp [intOf]; omega
              · have hkc2 : ¬ cap - k2 = 0 := by omega
                go_wp2_with (first
                  | (at_builtin; refine wpList_append_own_at _ rfl _ _ 22 rfl w5.heap.size 9 i0 (.string ⟨#[]⟩) 1 16 Tryz.underlying22 hi hz0 hz1 hz2 rfl (by decide) _ _ _ rfl HR9.out ⟨g, k2, none⟩ 0 (cap - k2) [] rfl (by simp) (by intro i u hu; simp at hu) (by intro u hu; simp at hu) (by unfold maxLen; omega) (by omega) HB59.out.size ?_)
                  | go_in)
                intro v3 w10 hr3 hg3 hn3 ha3
                have HB10 := Lib.hid (HB5.out.trans ((HB59.out.trans (row_grown HR9.out HB59.out.size hg3)).mono HB5.out.size))
                have HR10 := Lib.hid (row_wide hr3 HB5.out.size)
                clear hg3 hn3 ha3 hr3
                go_wp2_with fail
                go_roundw
                case rel =>
                  refine ⟨j + 1, by have := HNA.out; omega, by go_num, ?_, Lib.hid ?_, HB10.out⟩
                  · rw [HSL.out]
                    have h := HR10.out
                    have e1 : (S.take k2 ++ U :: S.drop k2).length = k2 + 1 := by rw [List.length_append, List.length_cons, List.length_take, List.length_drop]; have := HN.out; omega
                    have e2 : (S.take k2 ++ U :: S.drop k2).map bs = (S.map bs).take k2 ++ [.string s1] := by simp [HQ1.out, HDN.out]
                    rw [e1, e2]
                    exact h
                  · intro h; rw [HSL.out] at h; simp at h
                case measure => simp [intOf]; omega
    · have hlz : ¬ (j : Int) < (na : Int) := by omega
      have HE : sortN (L.take j) = sortN L := by rw [show j = L.length by have := HNA.out; have := HK.out; omega, List.take_length]
      have HF1 := Lib.hid (And.intro HROW.out HNIL.out)
      rw [HE] at HF1
      have HRW := Lib.hid (row_wide HF1.out.1 B4.out.size)
      clear HE HROW HNIL
      go_wp2_with fail
      go_ret
      exact ⟨⟨_, rfl, HRW.out, HF1.out.2⟩, B4.out.trans (HBB.out.mono B4.out.size)⟩
end Go.Proofs.YtmfkpoojfpepaaaGreatDoor.Ck
namespace Go.Proofs.YtmfkpoojfpepaaaGreatDoor.Ck
open Go.RowKit Go.Proofs.YtmfkpoojfpepaaaGreatDoor.Fl Go.Proofs.YtmfkpoojfpepaaaGreatDoor.Tk
set_option linter.unusedVariables false
set_option linter.unusedSimpArgs false


set_option maxHeartbeats 4000000 in
set_option maxRecDepth 100000 in
theorem refSchema_any (l : List Nm) (t : List Bool) (a : Option Addr) (c : Nat) (b : Option Addr) (d : Nat) (w : World) (hS : SchAt w l t a b) :
    Calls Tryz.prog 27 #[.slice a l.length c, .slice b t.length d] w fun e w' => e = .returned (.bool (schB l t)) ∧ Below w.heap.size w w' := by
  have CN := Lib.hid (fun (s : ByteArray) (hs : s.size ≤ maxLen) (W : World) (h : Below w.heap.size w W) => refName_any s W)
  have HS := Lib.hid hS
  obtain ⟨n, hn⟩ : ∃ n, n = l.length := ⟨_, rfl⟩
  obtain ⟨m, hm⟩ : ∃ n, n = t.length := ⟨_, rfl⟩
  have h100 : n ≤ 100 := by rw [hn]; exact hS.1
  have hbt : m ≤ 9223372036854775807 := by have := hS.2.2.1; unfold maxLen at this; omega
  have HN := Lib.hid hn
  have HM := Lib.hid hm
  obtain ⟨res, hres⟩ : ∃ r, r = schB l t := ⟨_, rfl⟩
  have HR := Lib.hid hres
  rw [← hres, ← hn, ← hm]
  clear hn hm hS hres
  have HB := Lib.hid (Below.refl w.heap.size w)
  go_enter Tryz.func27, Tryz.ntmps27
  go_wp2_with fail
  go_loopw [5] (fun vi wr => ScR l w vi wr) (fun vi _ => n - (intOf vi).toNat)
  case atStart => exact ⟨0, Nat.zero_le _, rfl, Lib.hid rfl, Below.refl _ _⟩
  case round =>
    obtain ⟨k, hk, rfl, hall, hBB⟩ := hrel
    have HK := Lib.hid hk
    have HBB := Lib.hid hBB
    have HBW := Lib.hid (HB.out.trans (hBB.mono HB.out.size))
    have HALL := Lib.hid hall.out
    skip
    clear hk hBB hall
    by_cases hlt : k < n
    · have hlz : (k : Int) < (n : Int) := by omega
      have hkl : k < l.length := by rw [← HN.out]; exact hlt
      obtain ⟨g, o, hg, hgl, hc⟩ := (HS.out.fit HBW.out).2.1.2.2 (by omega)
      have e0 := hc k hkl
      obtain ⟨U, hU⟩ : ∃ V, V = l[k] := ⟨_, rfl⟩
      rw [← hU] at e0
      have HU := Lib.hid (show l[k]? = some U by rw [hU]; exact List.getElem?_eq_getElem hkl)
      have HSL := Lib.hid (HS.out.2.1.2.1 U (List.mem_of_getElem? HU.out))
      obtain ⟨s1, q1, f1⟩ := bs_bytes U
      rw [q1] at e0
      have HSX := Lib.hid f1
      have HSZ := Lib.hid (show s1.size ≤ maxLen by rw [← size_list, f1]; exact HSL.out)
      subst hg
      by_cases hk0 : k = 0
      · subst hk0
        rw [Nat.add_zero] at e0
        clear hc hU q1 f1 hgl
        by_cases hnb : nameB U = true
        · have HBAD := Lib.hid (show badN l 0 = false by rw [bad_at HU.out, hnb]; simp)
          have CX := Lib.hid (CN.out s1 HSZ.out wr HBW.out)
          rw [HSX.out, hnb] at CX
          clear hnb
          go_wp2_with fail
          refine Calls.mono CX.out ?_
          rintro e w2 ⟨rfl, hb⟩
          have HB2 := Lib.hid (HBB.out.trans (hb.mono HBB.out.size))
          have r0 := cell_later hb e0
          clear hb
          go_wp2_with fail
          go_big_quiet (fail)
          all_goals
            go_wp2_with fail
            go_roundw
            case rel => exact ⟨1, by have := HN.out; omega, by go_num, Lib.hid (anyTo_next HALL.out HBAD.out), below_drewN HB2.out _⟩
            case measure => simp [intOf]; omega
        · have HF := Lib.hid (show res = false by rw [HR.out]; exact bad_yes (by have := HN.out; omega) (by rw [bad_at HU.out]; simp [hnb]))
          have CX := Lib.hid (CN.out s1 HSZ.out wr HBW.out)
          rw [HSX.out, Bool.eq_false_iff.2 hnb] at CX
          clear hnb
          go_wp2_with fail
          refine Calls.mono CX.out ?_
          rintro e w2 ⟨rfl, hb⟩
          have HB2 := Lib.hid (HBB.out.trans (hb.mono HBB.out.size))
          have r0 := cell_later hb e0
          clear hb
          go_wp2_with fail
          go_big_quiet (fail)
          all_goals
            go_wp2_with fail
            go_ret
            exact ⟨by rw [HF.out]; rfl, below_drewN HB2.out _⟩
      · have hk0z : (0 : Int) < (k : Int) := by omega
        have hk0b : decide ((0 : Int) < (k : Int)) = true := decide_eq_true hk0z
        have hk0n : 0 < k := by omega
        have hk0d : decide (0 < k) = true := decide_eq_true hk0n
        have e9 := hc (k - 1) (by omega)
        obtain ⟨V, hV⟩ : ∃ V, V = l[k - 1] := ⟨_, rfl⟩
        rw [← hV] at e9
        have HV := Lib.hid (show l.getD (k - 1) [] = V by rw [hV, List.getD_eq_getElem?_getD, List.getElem?_eq_getElem (by omega)]; rfl)
        obtain ⟨s2, q2, f2⟩ := bs_bytes V
        rw [q2] at e9
        have hbl := bytes_lt f2 f1
        obtain ⟨j, hj⟩ : ∃ j, k = j + 1 := ⟨k - 1, by omega⟩
        have hj1 : (k : Int) - 1 = (j : Int) := by omega
        have hjn : (j : Int) < (n : Int) := by omega
        have hjm : j < n := by omega
        rw [show k - 1 = j by omega] at e9 HV
        have HJ := Lib.hid (show k - 1 = j by omega)
        clear hj hk0
        clear hc hU q1 f1 hgl hV q2 f2
        by_cases hvu : V < U
        · rw [decide_eq_true hvu] at hbl
          have HVU := Lib.hid hvu
          clear hvu
          by_cases hnb : nameB U = true
          · have HBAD := Lib.hid (show badN l k = false by rw [bad_at HU.out, hnb]; rw [HJ.out, HV.out, decide_eq_true HVU.out]; simp)
            have CX := Lib.hid (CN.out s1 HSZ.out wr HBW.out)
            rw [HSX.out, hnb] at CX
            clear hnb
            go_wp2_with fail
            refine Calls.mono CX.out ?_
            rintro e w2 ⟨rfl, hb⟩
            have HB2 := Lib.hid (HBB.out.trans (hb.mono HBB.out.size))
            have r0 := cell_later hb e0
            have r9 := cell_later hb e9
            clear hb
            go_wp2_with fail
            go_big_quiet (fail)
            all_goals
              go_wp2_with fail
              go_roundw
              case rel => exact ⟨k + 1, by have := HN.out; omega, by go_num, Lib.hid (anyTo_next HALL.out HBAD.out), below_drewN HB2.out _⟩
              case measure => simp [intOf]; omega
          · have HF := Lib.hid (show res = false by rw [HR.out]; exact bad_yes (by have := HN.out; omega) (by rw [bad_at HU.out]; simp [hnb]))
            have CX := Lib.hid (CN.out s1 HSZ.out wr HBW.out)
            rw [HSX.out, Bool.eq_false_iff.2 hnb] at CX
            clear hnb
            go_wp2_with fail
            refine Calls.mono CX.out ?_
            rintro e w2 ⟨rfl, hb⟩
            have HB2 := Lib.hid (HBB.out.trans (hb.mono HBB.out.size))
            have r0 := cell_later hb e0
            have r9 := cell_later hb e9
            clear hb
            go_wp2_with fail
            go_big_quiet (fail)
            all_goals
              go_wp2_with fail
              go_ret
              exact ⟨by rw [HF.out]; rfl, below_drewN HB2.out _⟩
        · rw [decide_eq_false hvu] at hbl
          have HF := Lib.hid (show res = false by rw [HR.out]; exact bad_yes (by have := HN.out; omega) (by rw [bad_at HU.out, HJ.out, HV.out, decide_eq_true (show 0 < k by omega)]; simp [hvu]))
          clear hvu
          by_cases hnb : nameB U = true
          · have CX := Lib.hid (CN.out s1 HSZ.out wr HBW.out)
            rw [HSX.out, hnb] at CX
            clear hnb
            go_wp2_with fail
            refine Calls.mono CX.out ?_
            rintro e w2 ⟨rfl, hb⟩
            have HB2 := Lib.hid (HBB.out.trans (hb.mono HBB.out.size))
            have r0 := cell_later hb e0
            have r9 := cell_later hb e9
            clear hb
            go_wp2_with fail
            go_big_quiet (fail)
            all_goals
              go_wp2_with fail
              go_ret
              exact ⟨by rw [HF.out]; rfl, below_drewN HB2.out _⟩
          · have CX := Lib.hid (CN.out s1 HSZ.out wr HBW.out)
            rw [HSX.out, Bool.eq_false_iff.2 hnb] at CX
            clear hnb
            go_wp2_with fail
            refine Calls.mono CX.out ?_
            rintro e w2 ⟨rfl, hb⟩
            have HB2 := Lib.hid (HBB.out.trans (hb.mono HBB.out.size))
            have r0 := cell_later hb e0
            have r9 := cell_later hb e9
            clear hb
            go_wp2_with fail
            go_big_quiet (fail)
            all_goals
              go_wp2_with fail
              go_ret
              exact ⟨by rw [HF.out]; rfl, below_drewN HB2.out _⟩
    · have hlz : ¬ (k : Int) < (n : Int) := by omega
      have HF := Lib.hid (show res = decide (n = m) by rw [HR.out, HN.out, HM.out]; exact bad_none (by have := HN.out; have := HK.out; omega) HALL.out)
      by_cases hnm : n = m
      · have hnmz : ((n : Nat) : Int) = (m : Nat) := by omega
        go_wp2_with fail
        go_ret
        exact ⟨by rw [HF.out, decide_eq_true hnm]; first | rfl | simp [hnm], HBW.out⟩
      · have hnmz : ¬ ((n : Nat) : Int) = (m : Nat) := by omega
        go_wp2_with fail
        go_ret
        exact ⟨by rw [HF.out, decide_eq_false hnm]; first | rfl | (simp; omega), HBW.out⟩

end Go.Proofs.YtmfkpoojfpepaaaGreatDoor.Ck
