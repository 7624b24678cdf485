/-
  Contracts of the document's answers Deep, Nodes, May: how deep a filter is, how many nodes it has, whether it may be. Memory that was there is left as it was.
-/
import Derived.Test.YtcajcmaldnmbjaaMl07
import Derived.Test.YtcajcmaldnmbjaaMl05
import Derived.Sort.Walk0
import Derived.BigQuiet
import Derived.Great.BuildSlice
import Derived.Deep.AppendLies
import Derived.Test.YtcajcmaldnmbjaaMl04
/-
  Contract of the document's answer Names: a filter's names, rising, each once, in a row of the call's own. Memory that was there is left as it was. (As XCkRefNames, but for a seat without package check.)
-/
namespace Go.Proofs.Ytcajcmaldnmbjaa.Ev
open Go.RowKit Go.Proofs.Ytcajcmaldnmbjaa.Fl Go.Proofs.Ytcajcmaldnmbjaa.Tk Go.Proofs.Ytcajcmaldnmbjaa.Ck
set_option linter.unusedVariables false
set_option linter.unusedSimpArgs false

/-- Names in memory of the call's own. -/
def NamesEnd (z : Nat) (L : List Nm) (w' : World) (e : Ending) : Prop := ∃ v, e = .returned v ∧ w'.ownsRow z 9 1 v L.length (L.map bs) ∧ (L = [] → v = .slice none 0 0)
theorem row_nms {W : World} {z : Nat} {v : Value} {L : List Nm} (h : W.ownsRow z 9 1 v L.length (L.map bs)) (hs : ∀ s ∈ L, s.length ≤ maxLen) (hl : L.length ≤ maxLen) : ∃ a c, v = .slice a L.length c ∧ NmsAt W (Old W.heap.size) a L := by
  rcases h.2 with ⟨rfl, h0⟩ | ⟨g, cap, cur, rfl, hb, hh, _⟩
  · exact ⟨none, 0, by rw [h0], hl, hs, fun hp => by omega⟩
  · refine ⟨_, cap, rfl, hl, hs, fun hp => ⟨g, 0, rfl, (Array.getElem?_eq_some_iff.1 hh).1, fun k hk => ?_⟩⟩
    rw [Nat.zero_add, h.cellAt k (by omega), List.getElem?_map, List.getElem?_eq_getElem hk]
    rfl
theorem bytes_lt {x y : ByteArray} {X Y : Nm} (hx : x.data.toList = X) (hy : y.data.toList = Y) : Op.bytesLess x.toList y.toList = decide (X < Y) := by
  rw [bytesLess_eq, Lib.toList_data, Lib.toList_data, hx, hy]
theorem run_emptyS (w : World) {i0 : TypeInfo} (hi : Try.prog.info? 9 = some i0) : (Instr.buildSlice 33 0 #[]).run Try.prog w = .ok (.slice (some ⟨w.heap.size, 0, none⟩) 0 0) (w.alloc (.cells #[] 9)) := by
  have hu := Try.underlying33
  simp [Instr.buildSlice, run_underlying hu, sizeOf, typeInfo, hi, newRow, Instr.fill]
  rw [show Array.range 0 = (#[] : Array Nat) by decide]
  simp
theorem own_emptyS (W : World) : (W.alloc (.cells #[] 9)).ownsRow W.heap.size 9 1 (.slice (some ⟨W.heap.size, 0, none⟩) 0 0) 0 [] :=
  ⟨rfl, Or.inr ⟨W.heap.size, 0, #[], rfl, Nat.le_refl _, heap_alloc_new W _, Nat.le_refl _, Nat.zero_le _, rfl, rfl⟩⟩
theorem row_alloc {W : World} {base n k : Nat} {t : TypeId} {v : Value} {xs : List Value} (h : W.ownsRow base t k v n xs) (o : Obj) : (W.alloc o).ownsRow base t k v n xs :=
  rowKeep h fun g hg => Below.heap_alloc _ _ _ (rowLt h hg).2
theorem row_later {W V : World} {base n k : Nat} {t : TypeId} {v : Value} {xs : List Value} (h : W.ownsRow base t k v n xs) (hb : Below W.heap.size W V) : V.ownsRow base t k v n xs :=
  rowKeep h fun g hg => hb.block g (rowLt h hg).2
/-- Behind an append to a row of one's own, what lay below the row's base is as it was. -/
theorem row_grown {W V : World} {base n k : Nat} {t : TypeId} {v : Value} {xs : List Value} (h : W.ownsRow base t k v n xs) (hb : base ≤ W.heap.size) (hg : W.grownBy V v.ownBlock) : Below base W V :=
  ⟨hg.os, hg.tape, hg.output, hg.size, fun i hi => hg.block i (Nat.lt_of_lt_of_le hi hb) (by
    intro e
    have := (rowLt h e.symm).1
    omega)⟩
def RoR (L : List Nm) (w : World) (vo vi : Value) (wr : World) : Prop :=
  ∃ j : Nat, j ≤ L.length ∧ vi = .int .i64 j ∧ wr.ownsRow w.heap.size 9 1 vo (sortN (L.take j)).length ((sortN (L.take j)).map bs) ∧ Hid (sortN (L.take j) = [] → vo = .slice none 0 0) ∧ Below w.heap.size w wr
def LsR (S : List Nm) (x : Nm) (w : World) (vk : Value) (wr : World) : Prop :=
  ∃ k : Nat, k ≤ S.length ∧ vk = .int .i64 k ∧ Hid (∀ i y, i < k → S[i]? = some y → y < x) ∧ Below w.heap.size w wr
theorem sort_step {L : List Nm} {j : Nat} {U : Nm} (h : L[j]? = some U) : sortN (L.take (j + 1)) = insN (sortN (L.take j)) U := by
  rw [List.take_add_one, h]
  exact sortN_snoc _ _
set_option maxHeartbeats 20000000 in
set_option maxRecDepth 100000 in
theorem refNames_any (f : Flt) (a : Option Addr) (c : Nat) (b : Option Addr) (d : Nat) (w : World) (hF : FltAt w (Old w.heap.size) f a b) (h2 : (nms f).length ≤ 2000000) (h40 : ∀ x ∈ nms f, x.length ≤ 281474976710656) :
    Calls Try.prog 11 #[.agg #[.int .i64 f.kind, bs f.name, bs f.op, .slice a f.vals.length c, .slice b f.parts.length d]] w fun e w' => NamesEnd w.heap.size (sortN (nms f)) w' e ∧ Below w.heap.size w w' := by
  obtain ⟨i0, hi, hz0, hz1, hz2⟩ := info_cut infoS
  have hbe := fun W => run_emptyS W hi
  have CN := Lib.hid (fun W h1 => rn_all (sz f) f (Nat.le_refl _) a c b d W h1 h2)
  obtain ⟨sn, en, hsn⟩ := bs_bytes f.name
  obtain ⟨so, eo, hso⟩ := bs_bytes f.op
  rw [en, eo] at CN ⊢
  obtain ⟨k, hk⟩ : ∃ x, x = f.kind := ⟨_, rfl⟩
  obtain ⟨nv, hnv⟩ : ∃ x, x = f.vals.length := ⟨_, rfl⟩
  obtain ⟨np, hnp⟩ : ∃ x, x = f.parts.length := ⟨_, rfl⟩
  rw [← hk, ← hnv, ← hnp] at CN ⊢
  have HF := Lib.hid hF
  obtain ⟨L, hL⟩ : ∃ x, x = nms f := ⟨_, rfl⟩
  have H40 := Lib.hid (show ∀ x ∈ L, x.length ≤ maxLen by intro x hx; rw [hL] at hx; have := h40 x hx; unfold maxLen; omega)
  have HLS := Lib.hid (show L.length ≤ 2000000 by rw [hL]; exact h2)
  rw [← hL] at CN ⊢
  clear hF h2 h40 hk hnv hnp hL en eo hsn hso
  obtain ⟨w1, hw1⟩ : ∃ v, v = w.alloc (.cells #[.int .i64 k, .string sn, .string so, .slice a nv c, .slice b np d] 25) := ⟨_, rfl⟩
  have HB := Lib.hid (show Below w.heap.size w w1 by rw [hw1]; exact (Below.refl _ _).alloc (Nat.le_refl _) _)
  have HW := Lib.hid hw1
  clear hw1
  go_enter Try.func11, Try.ntmps11
  go_wp2_with fail
  rw [← HW.out]
  refine Calls.mono (CN.out _ ((HF.out.later HB.out).wide HB.out.size)) ?_
  rintro e w4 ⟨⟨v, rfl, hrow, _⟩, hb⟩
  obtain ⟨aa, ca, rfl, hall⟩ := row_nms hrow H40.out (by have := HLS.out; unfold maxLen; omega)
  have B4 := Lib.hid (HB.out.trans (hb.mono HB.out.size))
  have HALL := Lib.hid hall
  obtain ⟨na, hna⟩ : ∃ x, x = L.length := ⟨_, rfl⟩
  have HNA := Lib.hid hna
  have hnab : na ≤ 2000000 := by have := HLS.out; omega
  rw [← hna]
  clear hb hrow hall hna
  go_wp2_with fail
  go_loopw [3, 5] (fun vo vi wr => RoR L w4 vo vi wr) (fun _ vi _ => na - (intOf vi).toNat)
  case atStart => exact ⟨0, Nat.zero_le _, rfl, World.ownsRow_nil w4 _ _ _, Lib.hid (fun _ => rfl), Below.refl _ _⟩
  case round =>
    obtain ⟨j, hk, rfl, hrow, hnil, hBB⟩ := hrel
    have HK := Lib.hid hk
    have HBB := Lib.hid hBB
    have HROW := Lib.hid hrow
    have HNIL := Lib.hid hnil.out
    clear hk hBB hrow hnil
    by_cases hlt : j < na
    · have hlz : (j : Int) < (na : Int) := by omega
      have hku : j < L.length := by rw [← HNA.out]; exact hlt
      obtain ⟨g4, o4, hg, hgl, hc⟩ := HALL.out.2.2 (by omega)
      have HC := Lib.hid (hc j hku)
      obtain ⟨U, hU⟩ : ∃ V, V = L[j] := ⟨_, rfl⟩
      have HUK := Lib.hid (show L[j]? = some U by rw [hU]; exact List.getElem?_eq_getElem hku)
      rw [← hU] at HC
      obtain ⟨s1, q1, f1⟩ := bs_bytes U
      rw [q1] at HC
      have HS1 := Lib.hid f1
      have HQ1 := Lib.hid q1
      have HG4 := Lib.hid (show g4 < w4.heap.size from hgl)
      have HCL := Lib.hid (show ∀ W, Below w4.heap.size w4 W → W.cell? ⟨g4, o4 + j, none⟩ = some (.string s1) from fun W hW => (hW.cell (p := ⟨g4, o4 + j, none⟩) HG4.out).trans HC.out)
      have HSTEP := Lib.hid (sort_step HUK.out)
      have HLEN := Lib.hid (show (sortN (L.take j)).length ≤ 2000000 by have h1 := length_sortN (L.take j); have h2 := HLS.out; rw [List.length_take] at h1; omega)
      obtain ⟨S, hS⟩ : ∃ x, x = sortN (L.take j) := ⟨_, rfl⟩
      rw [← hS] at HROW HNIL HSTEP HLEN
      subst hg
      clear hc hU q1 f1 hgl hS hlt
      obtain ⟨n, hn⟩ : ∃ n, n = S.length := ⟨_, rfl⟩
      have HN := Lib.hid hn
      rw [← hn] at HROW HLEN
      have hn2 : n ≤ 2000000 := HLEN.out
      clear hn
      by_cases h0 : S = []
      · have HS0 := Lib.hid h0
        obtain rfl := HNIL.out h0
        obtain rfl : n = 0 := by rw [HN.out, h0]; rfl
        have HSL := Lib.hid (show sortN (L.take (j + 1)) = [U] by rw [HSTEP.out, h0]; rfl)
        clear h0
        go_wp2_with fail
        refine wp_loop_rounds 1 ?_
        rw [rounds_succ]
        go_wp2_with fail
        go_big_quiet (fail)
        all_goals
          obtain ⟨w5, hw5⟩ : ∃ v, v = wr.drewN nq := ⟨_, rfl⟩
          have HB5 := Lib.hid (show Below w4.heap.size w4 w5 by rw [hw5]; exact below_drewN HBB.out _)
          rw [← hw5]
          clear hw5
          obtain ⟨w6, hw6⟩ : ∃ v, v = (w5.alloc (.cells #[] 9)).alloc (.cells #[.string s1] 9) := ⟨_, rfl⟩
          have hs5 : (w5.alloc (.cells #[] 9)).heap.size = w5.heap.size + 1 := by simp
          have HB56 := Lib.hid (show Below w5.heap.size w5 w6 by rw [hw6]; exact ((Below.refl _ _).alloc (Nat.le_refl _) _).alloc (by rw [hs5]; omega) _)
          have HR6 := Lib.hid (show w6.ownsRow w5.heap.size 9 1 (.slice (some ⟨w5.heap.size, 0, none⟩) 0 0) 0 [] by rw [hw6]; exact row_alloc (own_emptyS w5) _)
          have HN6 := Lib.hid (show ∀ j u, [Value.string s1][j]? = some u → w6.cell? ((⟨w5.heap.size + 1, 0, none⟩ : Addr).add j) = some u by rw [hw6, ← hs5]; exact cell_one_new _ _ _)
          have HW6 := Lib.hid hw6
          have hc1 := HCL.out _ HB5.out
          have hgl5 : g4 < w5.heap.size := Nat.lt_of_lt_of_le HG4.out HB5.out.size
          clear hw6 hs5
          go_wp2_with (first
            | (at_builtin; refine wpList_append_own_none rfl _ _ 33 rfl w5.heap.size 9 i0 1 Try.underlying33 hi _ _ _ rfl (own_emptyS w5) rfl ?_)
            | (at_builtin; rw [← HW6.out]; refine wpList_append_own_at _ rfl _ _ 33 rfl w5.heap.size 9 i0 (.string ⟨#[]⟩) 1 16 Try.underlying33 hi hz0 hz1 hz2 rfl (by decide) _ _ _ rfl HR6.out ⟨w5.heap.size + 1, 0, none⟩ 1 1 [.string s1] rfl rfl HN6.out (by intro u hu; simp at hu; rw [hu]; rfl) (by unfold maxLen; omega) (by omega) HB56.out.size ?_)
            | go_in)
          intro v7 w7 hr7 hg7 hn7 ha7
          have HB7 := Lib.hid (HB5.out.trans ((HB56.out.trans (row_grown HR6.out HB56.out.size hg7)).mono HB5.out.size))
          have HR7 := Lib.hid (row_wide hr7 HB5.out.size)
          clear hg7 hn7 ha7
          go_wp2_with (first
            | (at_builtin; refine wpList_append_own_none rfl _ _ 33 rfl w5.heap.size 9 i0 1 Try.underlying33 hi _ _ _ rfl hr7 rfl ?_)
            | go_in)
          go_roundw
          case rel =>
            refine ⟨j + 1, by have := HNA.out; omega, by go_num, ?_, Lib.hid ?_, HB7.out⟩
            · rw [HSL.out]
              simpa [HQ1.out] using HR7.out
            · intro h; rw [HSL.out] at h; cases h
          case measure => simp [intOf]; omega
      · have hp : 0 < n := by rw [HN.out]; exact List.length_pos_iff.2 h0
        obtain ⟨g, cap, hvo, hnc, hcap⟩ : ∃ g cap, u3 = .slice (some ⟨g, 0, none⟩) n cap ∧ n ≤ cap ∧ cap ≤ maxLen := by
          rcases HROW.out.2 with ⟨_, h⟩ | ⟨g2, c2, cur, e, _, _, h5, h6, _⟩
          · omega
          · exact ⟨g2, c2, e, h5, h6⟩
        subst hvo
        have HGL := Lib.hid (rowLt HROW.out (g := g) rfl)
        have HRC := Lib.hid (show ∀ W, Below wr.heap.size wr W → ∀ i, i < n → W.cell? ⟨g, i, none⟩ = (S.map bs)[i]? from fun W hW i hi => ((row_later HROW.out hW).cellAt i (by omega)))
        clear h0 HNIL
        go_wp2_with fail
        go_loopw [6] (fun vk wk => LsR S U wr vk wk) (fun vk _ => n - (intOf vk).toNat)
        case atStart => exact ⟨0, Nat.zero_le _, rfl, Lib.hid (fun i y hi => by omega), Below.refl _ _⟩
        case round =>
          obtain ⟨k2, hk2, rfl, hles, hBK⟩ := hrel
          have HK2 := Lib.hid hk2
          have HBK := Lib.hid hBK
          have HLES := Lib.hid hles.out
          clear hk2 hBK hles
          by_cases hkt : k2 < n
          · have hkz : (k2 : Int) < (n : Int) := by omega
            have hks : k2 < S.length := by rw [← HN.out]; exact hkt
            have cS := HRC.out _ HBK.out k2 hkt
            have cL := HCL.out _ (HBB.out.trans (HBK.out.mono HBB.out.size))
            obtain ⟨Z, hZ⟩ : ∃ V, V = S[k2] := ⟨_, rfl⟩
            have HZK := Lib.hid (show S[k2]? = some Z by rw [hZ]; exact List.getElem?_eq_getElem hks)
            rw [List.getElem?_map, HZK.out, Option.map_some] at cS
            obtain ⟨s2, q2, f2⟩ := bs_bytes Z
            rw [q2] at cS
            have hbl := bytes_lt f2 HS1.out
            have HS2 := Lib.hid f2
            have HQ2 := Lib.hid q2
            clear hZ q2 f2
            by_cases hzu : Z < U
            · rw [decide_eq_true hzu] at hbl
              have HZU := Lib.hid hzu
              clear hzu
              go_wp2_with fail
              go_big_quiet (fail)
              all_goals
                go_wp2_with fail
                go_roundw
                case rel =>
                  exact ⟨k2 + 1, by have := HN.out; omega, by go_num, Lib.hid (fun i y hi hy => by
                    rcases Nat.lt_or_ge i k2 with h | h
                    · exact HLES.out i y h hy
                    · obtain rfl : i = k2 := by omega
                      rw [HZK.out] at hy
                      cases hy
                      exact HZU.out), below_drewN HBK.out _⟩
                case measure => simp [intOf]; omega
            · rw [decide_eq_false hzu] at hbl
              have HZU := Lib.hid hzu
              clear hzu
              have HIN := Lib.hid (insN_at (x := U) S k2 (by omega) HLES.out (fun y hy => by rw [HZK.out] at hy; cases hy; exact HZU.out))
              by_cases he : s2.data.toList = s1.data.toList
              · obtain rfl := eq_list he
                have HSL := Lib.hid (show sortN (L.take (j + 1)) = S by rw [HSTEP.out, HIN.out, if_pos (by rw [HZK.out, ← HS2.out, HS1.out])])
                clear he
                go_wp2_with fail
                go_big_quiet (fail)
                all_goals
                  go_wp2_with fail
                  go_big_quiet (fail)
                  all_goals
                    go_wp2_with fail
                    go_roundw
                    case rel =>
                      refine ⟨j + 1, by have := HNA.out; omega, by go_num, ?_, Lib.hid ?_, below_drewN (HBB.out.trans (HBK.out.mono HBB.out.size)) _⟩
                      · rw [HSL.out, ← HN.out]
                        exact row_later HROW.out (below_drewN HBK.out _)
                      · intro h; rw [HSL.out] at h; have := HN.out; rw [h] at this; simp at this; omega
                    case measure => simp [intOf]; omega
              · obtain ⟨q0, q1, q2⟩ := ne_list he
                have HSL := Lib.hid (show sortN (L.take (j + 1)) = S.take k2 ++ U :: S.drop k2 by rw [HSTEP.out, HIN.out, if_neg (by rw [HZK.out]; intro h; cases h; exact he (by rw [HS2.out, HS1.out]))])
                clear he
                go_wp2_with fail
                go_big_quiet (fail)
                all_goals
                  obtain ⟨wA, hwA⟩ : ∃ v, v = wr.drewN nq := ⟨_, rfl⟩
                  have HBKA := Lib.hid (show Below _ _ wA by rw [hwA]; exact below_drewN HBK.out _)
                  have cSA := HRC.out _ HBKA.out k2 hkt
                  rw [List.getElem?_map, HZK.out, Option.map_some, HQ2.out] at cSA
                  have cLA := HCL.out _ (HBB.out.trans (HBKA.out.mono HBB.out.size))
                  rw [← hwA]
                  clear hwA nq
                  go_wp2_with fail
                  go_big_quiet (fail)
                  all_goals
                    obtain ⟨w5, hw5⟩ : ∃ v, v = wA.drewN nq := ⟨_, rfl⟩
                    have HBK5 := Lib.hid (show Below _ _ w5 by rw [hw5]; exact below_drewN HBKA.out _)
                    rw [← hw5]
                    clear hw5 cSA cLA
                    have HB5 := Lib.hid (HBB.out.trans (HBK5.out.mono HBB.out.size))
                    have HRV5 := Lib.hid (row_later HROW.out HBK5.out)
                    obtain ⟨w6, hw6⟩ : ∃ v, v = w5.alloc (.cells #[] 9) := ⟨_, rfl⟩
                    have HB56 := Lib.hid (show Below w5.heap.size w5 w6 by rw [hw6]; exact (Below.refl _ _).alloc (Nat.le_refl _) _)
                    have HR6 := Lib.hid (show w6.ownsRow w5.heap.size 9 1 (.slice (some ⟨w5.heap.size, 0, none⟩) 0 0) 0 [] by rw [hw6]; exact own_emptyS w5)
                    have HV6 := Lib.hid (row_later HRV5.out HB56.out)
                    have HN6 := Lib.hid (show ∀ i u, ((S.take k2).map bs)[i]? = some u → w6.cell? ((⟨g, 0, none⟩ : Addr).add i) = some u by
                      intro i u hu
                      have hi : i < k2 := by
                        have := (List.getElem?_eq_some_iff.1 hu).1
                        rw [List.length_map, List.length_take] at this
                        omega
                      rw [show ((⟨g, 0, none⟩ : Addr).add i) = ⟨g, i, none⟩ by rw [WideShapes.add_plain, Nat.zero_add], HV6.out.cellAt i (by omega)]
                      rw [List.getElem?_map, List.getElem?_take, if_pos hi] at hu
                      rw [List.getElem?_map]
                      exact hu)
                    have HW6 := Lib.hid hw6
                    clear hw6
                    go_wp2_with (first
                      | (at_builtin; rw [← HW6.out]; refine wpList_append_own_at _ rfl _ _ 33 rfl w5.heap.size 9 i0 (.string ⟨#[]⟩) 1 16 Try.underlying33 hi hz0 hz1 hz2 rfl (by decide) _ _ _ rfl HR6.out ⟨g, 0, none⟩ k2 cap ((S.take k2).map bs) rfl (by rw [List.length_map, List.length_take]; have := HN.out; omega) HN6.out (bs_one _) (by unfold maxLen; omega) (by omega) HB56.out.size ?_)
                      | go_in)
                    intro v1 w7 hr1 hg1 hn1 ha1
                    have HB67 := Lib.hid (row_grown HR6.out HB56.out.size hg1)
                    have HB57 := Lib.hid (HB56.out.trans HB67.out)
                    have HB7 := Lib.hid (HB5.out.trans (HB57.out.mono HB5.out.size))
                    have hc7 := HCL.out _ HB7.out
                    have hgl7 : g4 < w7.heap.size := Nat.lt_of_lt_of_le HG4.out HB7.out.size
                    obtain ⟨w8, hw8⟩ : ∃ v, v = w7.alloc (.cells #[.string s1] 9) := ⟨_, rfl⟩
                    have HB78 := Lib.hid (show Below w7.heap.size w7 w8 by rw [hw8]; exact (Below.refl _ _).alloc (Nat.le_refl _) _)
                    have HR8 := Lib.hid (show w8.ownsRow w5.heap.size 9 1 v1 _ _ by rw [hw8]; exact row_alloc hr1 _)
                    have HN8 := Lib.hid (show ∀ j u, [Value.string s1][j]? = some u → w8.cell? ((⟨w7.heap.size, 0, none⟩ : Addr).add j) = some u by rw [hw8]; exact cell_one_new _ _ _)
                    have HW8 := Lib.hid hw8
                    have HB58 := Lib.hid (HB57.out.trans (HB78.out.mono HB57.out.size))
                    clear hg1 hn1 ha1 hr1 hw8
                    go_wp2_with (first
                      | (at_builtin; rw [← HW8.out]; refine wpList_append_own_at _ rfl _ _ 33 rfl w5.heap.size 9 i0 (.string ⟨#[]⟩) 1 16 Try.underlying33 hi hz0 hz1 hz2 rfl (by decide) _ _ _ rfl HR8.out ⟨w7.heap.size, 0, none⟩ 1 1 [.string s1] rfl rfl HN8.out (by intro u hu; simp at hu; rw [hu]; rfl) (by unfold maxLen; omega) (by omega) HB58.out.size ?_)
                      | go_in)
                    intro v2 w9 hr2 hg2 hn2 ha2
                    have HB89 := Lib.hid (row_grown HR8.out HB58.out.size hg2)
                    have HB59 := Lib.hid (HB58.out.trans HB89.out)
                    have HB9 := Lib.hid (HB5.out.trans (HB59.out.mono HB5.out.size))
                    have HV9 := Lib.hid (row_later HRV5.out HB59.out)
                    have HR9 := Lib.hid hr2
                    clear hg2 hn2 ha2 hr2
                    have hkc : ¬ cap = k2 := by omega
                    have hkc2 : ¬ cap - k2 = 0 := by omega
                    have HND := Lib.hid (show ∀ i u, ((S.drop k2).map bs)[i]? = some u → w9.cell? ((⟨g, k2, none⟩ : Addr).add i) = some u by
                      intro i u hu
                      have hi : k2 + i < n := by
                        have := (List.getElem?_eq_some_iff.1 hu).1
                        rw [List.length_map, List.length_drop] at this
                        have := HN.out
                        omega
                      rw [WideShapes.add_plain, HV9.out.cellAt (k2 + i) (by omega)]
                      rw [List.getElem?_map, List.getElem?_drop] at hu
                      rw [List.getElem?_map]
                      exact hu)
                    go_wp2_with (first
                      | (at_builtin; refine wpList_append_own_at _ rfl _ _ 33 rfl w5.heap.size 9 i0 (.string ⟨#[]⟩) 1 16 Try.underlying33 hi hz0 hz1 hz2 rfl (by decide) _ _ _ rfl HR9.out ⟨g, k2, none⟩ (n - k2) (cap - k2) ((S.drop k2).map bs) rfl (by rw [List.length_map, List.length_drop]; have := HN.out; omega) HND.out (bs_one _) (by unfold maxLen; omega) (by omega) HB59.out.size ?_)
                      | go_in)
                    intro v3 w10 hr3 hg3 hn3 ha3
                    have HB10 := Lib.hid (HB5.out.trans ((HB59.out.trans (row_grown HR9.out HB59.out.size hg3)).mono HB5.out.size))
                    have HR10 := Lib.hid (row_wide hr3 HB5.out.size)
                    clear hg3 hn3 ha3 hr3
                    go_wp2_with fail
                    go_roundw
                    case rel =>
                      refine ⟨j + 1, by have := HNA.out; omega, by go_num, ?_, Lib.hid ?_, HB10.out⟩
                      · rw [HSL.out]
                        have h := HR10.out
                        have e1 : (S.take k2 ++ U :: S.drop k2).length = k2 + 1 + (n - k2) := by rw [List.length_append, List.length_cons, List.length_take, List.length_drop]; have := HN.out; omega
                        have e2 : (S.take k2 ++ U :: S.drop k2).map bs = List.take k2 (List.map bs S) ++ ([.string s1] ++ List.map bs (List.drop k2 S)) := by simp [HQ1.out]
                        rw [e1, e2]
                        first | exact h | simpa using h
                      · intro h; rw [HSL.out] at h; simp at h
                    case measure => simp [intOf]; omega
          · have hkz : ¬ (k2 : Int) < (n : Int) := by omega
            obtain rfl : k2 = n := by have := HN.out; have := HK2.out; omega
            have HSL := Lib.hid (show sortN (L.take (j + 1)) = S.take k2 ++ U :: S.drop k2 by
              rw [HSTEP.out, insN_at (x := U) S k2 (by have := HN.out; omega) HLES.out (fun y hy => by rw [List.getElem?_eq_none (by have := HN.out; omega)] at hy; cases hy), if_neg (by rw [List.getElem?_eq_none (by have := HN.out; omega)]; simp)])
            have HDN := Lib.hid (show S.drop k2 = [] from List.drop_eq_nil_of_le (by have := HN.out; omega))
            go_wp2_with fail
            go_big_quiet (fail)
            all_goals
              obtain ⟨w5, hw5⟩ : ∃ v, v = wr.drewN nq := ⟨_, rfl⟩
              have HBK5 := Lib.hid (show Below _ _ w5 by rw [hw5]; exact below_drewN HBK.out _)
              rw [← hw5]
              clear hw5
              have HB5 := Lib.hid (HBB.out.trans (HBK5.out.mono HBB.out.size))
              have HRV5 := Lib.hid (row_later HROW.out HBK5.out)
              obtain ⟨w6, hw6⟩ : ∃ v, v = w5.alloc (.cells #[] 9) := ⟨_, rfl⟩
              have HB56 := Lib.hid (show Below w5.heap.size w5 w6 by rw [hw6]; exact (Below.refl _ _).alloc (Nat.le_refl _) _)
              have HR6 := Lib.hid (show w6.ownsRow w5.heap.size 9 1 (.slice (some ⟨w5.heap.size, 0, none⟩) 0 0) 0 [] by rw [hw6]; exact own_emptyS w5)
              have HV6 := Lib.hid (row_later HRV5.out HB56.out)
              have HN6 := Lib.hid (show ∀ i u, ((S.take k2).map bs)[i]? = some u → w6.cell? ((⟨g, 0, none⟩ : Addr).add i) = some u by
                intro i u hu
                have hi : i < k2 := by
                  have := (List.getElem?_eq_some_iff.1 hu).1
                  rw [List.length_map, List.length_take] at this
                  omega
                rw [show ((⟨g, 0, none⟩ : Addr).add i) = ⟨g, i, none⟩ by rw [WideShapes.add_plain, Nat.zero_add], HV6.out.cellAt i (by omega)]
                rw [List.getElem?_map, List.getElem?_take, if_pos hi] at hu
                rw [List.getElem?_map]
                exact hu)
              have HW6 := Lib.hid hw6
              clear hw6
              go_wp2_with (first
                | (at_builtin; rw [← HW6.out]; refine wpList_append_own_at _ rfl _ _ 33 rfl w5.heap.size 9 i0 (.string ⟨#[]⟩) 1 16 Try.underlying33 hi hz0 hz1 hz2 rfl (by decide) _ _ _ rfl HR6.out ⟨g, 0, none⟩ k2 cap ((S.take k2).map bs) rfl (by rw [List.length_map, List.length_take]; have := HN.out; omega) HN6.out (bs_one _) (by unfold maxLen; omega) (by omega) HB56.out.size ?_)
                | go_in)
              intro v1 w7 hr1 hg1 hn1 ha1
              have HB67 := Lib.hid (row_grown HR6.out HB56.out.size hg1)
              have HB57 := Lib.hid (HB56.out.trans HB67.out)
              have HB7 := Lib.hid (HB5.out.trans (HB57.out.mono HB5.out.size))
              have hc7 := HCL.out _ HB7.out
              have hgl7 : g4 < w7.heap.size := Nat.lt_of_lt_of_le HG4.out HB7.out.size
              obtain ⟨w8, hw8⟩ : ∃ v, v = w7.alloc (.cells #[.string s1] 9) := ⟨_, rfl⟩
              have HB78 := Lib.hid (show Below w7.heap.size w7 w8 by rw [hw8]; exact (Below.refl _ _).alloc (Nat.le_refl _) _)
              have HR8 := Lib.hid (show w8.ownsRow w5.heap.size 9 1 v1 _ _ by rw [hw8]; exact row_alloc hr1 _)
              have HN8 := Lib.hid (show ∀ j u, [Value.string s1][j]? = some u → w8.cell? ((⟨w7.heap.size, 0, none⟩ : Addr).add j) = some u by rw [hw8]; exact cell_one_new _ _ _)
              have HW8 := Lib.hid hw8
              have HB58 := Lib.hid (HB57.out.trans (HB78.out.mono HB57.out.size))
              clear hg1 hn1 ha1 hr1 hw8
              go_wp2_with (first
                | (at_builtin; rw [← HW8.out]; refine wpList_append_own_at _ rfl _ _ 33 rfl w5.heap.size 9 i0 (.string ⟨#[]⟩) 1 16 Try.underlying33 hi hz0 hz1 hz2 rfl (by decide) _ _ _ rfl HR8.out ⟨w7.heap.size, 0, none⟩ 1 1 [.string s1] rfl rfl HN8.out (by intro u hu; simp at hu; rw [hu]; rfl) (by unfold maxLen; omega) (by omega) HB58.out.size ?_)
                | go_in)
              intro v2 w9 hr2 hg2 hn2 ha2
              have HB89 := Lib.hid (row_grown HR8.out HB58.out.size hg2)
              have HB59 := Lib.hid (HB58.out.trans HB89.out)
              have HB9 := Lib.hid (HB5.out.trans (HB59.out.mono HB5.out.size))
              have HV9 := Lib.hid (row_later HRV5.out HB59.out)
              have HR9 := Lib.hid hr2
              clear hg2 hn2 ha2 hr2
              by_cases hkc : cap = k2
              · have hkc2 : cap - k2 = 0 := by omega
                go_wp2_with (first
                  | (at_builtin; refine wpList_append_own_at _ rfl _ _ 33 rfl w5.heap.size 9 i0 (.string ⟨#[]⟩) 1 16 Try.underlying33 hi hz0 hz1 hz2 rfl (by decide) _ _ _ rfl HR9.out ⟨g, 0, none⟩ 0 0 [] rfl (by simp) (by intro i u hu; simp at hu) (by intro u hu; simp at hu) (by unfold maxLen; omega) (by omega) HB59.out.size ?_)
                  | go_in)
                intro v3 w10 hr3 hg3 hn3 ha3
                have HB10 := Lib.hid (HB5.out.trans ((HB59.out.trans (row_grown HR9.out HB59.out.size hg3)).mono HB5.out.size))
                have HR10 := Lib.hid (row_wide hr3 HB5.out.size)
                clear hg3 hn3 ha3 hr3
                go_wp2_with fail
                go_roundw
                case rel =>
                  refine ⟨j + 1, by have := HNA.out; omega, by go_num, ?_, Lib.hid ?_, HB10.out⟩
                  · rw [HSL.out]
                    have h := HR10.out
                    have e1 : (S.take k2 ++ U :: S.drop k2).length = k2 + 1 := by rw [List.length_append, List.length_cons, List.length_take, List.length_drop]; have := HN.out; omega
                    have e2 : (S.take k2 ++ U :: S.drop k2).map bs = (S.map bs).take k2 ++ [.string s1] := by simp [HQ1.out, HDN.out]
                    rw [e1, e2]
                    exact h
                  · intro h; rw [HSL.out] at h; simp at h
                case measure => simp [intOf]; omega
              · have hkc2 : ¬ cap - k2 = 0 := by omega
                go_wp2_with (first
                  | (at_builtin; refine wpList_append_own_at _ rfl _ _ 33 rfl w5.heap.size 9 i0 (.string ⟨#[]⟩) 1 16 Try.underlying33 hi hz0 hz1 hz2 rfl (by decide) _ _ _ rfl HR9.out ⟨g, k2, none⟩ 0 (cap - k2) [] rfl (by simp) (by intro i u hu; simp at hu) (by intro u hu; simp at hu) (by unfold maxLen; omega) (by omega) HB59.out.size ?_)
                  | go_in)
                intro v3 w10 hr3 hg3 hn3 ha3
                have HB10 := Lib.hid (HB5.out.trans ((HB59.out.trans (row_grown HR9.out HB59.out.size hg3)).mono HB5.out.size))
                have HR10 := Lib.hid (row_wide hr3 HB5.out.size)
                clear hg3 hn3 ha3 hr3
                go_wp2_with fail
                go_roundw
                case rel =>
                  refine ⟨j + 1, by have := HNA.out; omega, by go_num, ?_, Lib.hid ?_, HB10.out⟩
                  · rw [HSL.out]
                    have h := HR10.out
                    have e1 : (S.take k2 ++ U :: S.drop k2).length = k2 + 1 := by rw [List.length_append, List.length_cons, List.length_take, List.length_drop]; have := HN.out; omega
                    have e2 : (S.take k2 ++ U :: S.drop k2).map bs = (S.map bs).take k2 ++ [.string s1] := by simp [HQ1.out, HDN.out]
                    rw [e1, e2]
                    exact h
                  · intro h; rw [HSL.out] at h; simp at h
                case measure => simp [intOf]; omega
    · have hlz : ¬ (j : Int) < (na : Int) := by omega
      have HE : sortN (L.take j) = sortN L := by rw [show j = L.length by have := HNA.out; have := HK.out; omega, List.take_length]
      have HF1 := Lib.hid (And.intro HROW.out HNIL.out)
      rw [HE] at HF1
      have HRW := Lib.hid (row_wide HF1.out.1 B4.out.size)
      clear HE HROW HNIL
      go_wp2_with fail
      go_ret
      exact ⟨⟨_, rfl, HRW.out, HF1.out.2⟩, B4.out.trans (HBB.out.mono B4.out.size)⟩
end Go.Proofs.Ytcajcmaldnmbjaa.Ev
/-
  Rows of attributes of a call's own: their cells, an empty one made, one read. No function of the program here.
-/
namespace Go.Proofs.Ytcajcmaldnmbjaa.Ev
open Go.RowKit Go.Maps Go.Proofs.Ytcajcmaldnmbjaa.Fl Go.Proofs.Ytcajcmaldnmbjaa.Tk Go.Proofs.Ytcajcmaldnmbjaa.Ck
set_option linter.unusedVariables false
set_option linter.unusedSimpArgs false

theorem infoA : (Try.prog.info? 31).map (fun i => (i.zero, i.size, i.bytes)) = some (some (.agg #[.string ⟨#[]⟩, .bool false, .int .i64 0, .string ⟨#[]⟩]), 4, 48) := by kernel_rfl
theorem run_emptyA (w : World) {i0 : TypeInfo} (hi : Try.prog.info? 31 = some i0) : (Instr.buildSlice 22 0 #[]).run Try.prog w = .ok (.slice (some ⟨w.heap.size, 0, none⟩) 0 0) (w.alloc (.cells #[] 31)) := by
  have hu := Try.underlying22
  simp [Instr.buildSlice, run_underlying hu, sizeOf, typeInfo, hi, newRow, Instr.fill]
  rw [show Array.range 0 = (#[] : Array Nat) by decide]
  simp
theorem wp_emptyA {o : Oper} {a : Act} {w : World} {K : Act → World → Prop} {Q : Exit → Act → World → Prop} {i0 : TypeInfo} (ho : o.op = .buildSlice 22 0 #[]) (hi : Try.prog.info? 31 = some i0)
    (h : K (a.put o.dst (.slice (some ⟨w.heap.size, 0, none⟩) 0 0)) (w.alloc (.cells #[] 31))) : o.wp Try.prog a w K Q := by
  unfold Oper.wp execOp
  simp only [ho, Sem.run_bind, List.map_toArray, List.map_nil, run_emptyA w hi, Result.andThen_ok]
  exact h
theorem own_emptyA (W : World) (B : Nat) (hB : B ≤ W.heap.size) : (W.alloc (.cells #[] 31)).ownsRow B 31 4 (.slice (some ⟨W.heap.size, 0, none⟩) 0 0) 0 [] :=
  ⟨rfl, Or.inr ⟨W.heap.size, 0, #[], rfl, hB, heap_alloc_new W _, Nat.le_refl _, Nat.zero_le _, rfl, rfl⟩⟩
/-- Block g is a row of attributes' cells. -/
def RwA (W : World) (g : Nat) (cs : Array Value) : Prop := W.heap[g]? = some (.cells cs 31)
theorem RwA.lt {W : World} {g : Nat} {cs : Array Value} (h : RwA W g cs) : g < W.heap.size := (Array.getElem?_eq_some_iff.1 h).1
theorem RwA.later {W V : World} {g : Nat} {cs : Array Value} (h : RwA W g cs) (hb : Below W.heap.size W V) : RwA V g cs := (hb.block g h.lt).trans h
theorem RwA.new (W : World) (cs : Array Value) : RwA (W.alloc (.cells cs 31)) W.heap.size cs := heap_alloc_new W _
theorem RwA.same {W V : World} {g : Nat} {cs : Array Value} (h : RwA W g cs) (e : V.heap[g]? = W.heap[g]?) : RwA V g cs := e.trans h
theorem own_same {W V : World} {base n k : Nat} {t : TypeId} {v : Value} {xs : List Value} (h : W.ownsRow base t k v n xs) (hb : Below W.heap.size W V) : V.ownsRow base t k v n xs :=
  rowKeep h fun g hg => hb.block g (rowLt h hg).2
theorem cell_of_ownA {W : World} {z n k : Nat} {t : TypeId} {b : Option Addr} {d : Nat} {xs : List Value} (h : W.ownsRow z t k (.slice b n d) n xs) (h0 : 0 < n) : ∃ g, b = some ⟨g, 0, none⟩ ∧ z ≤ g ∧ g < W.heap.size ∧ n ≤ d ∧ ∀ j u, xs[j]? = some u → W.cell? ⟨g, j, none⟩ = some u := by
  rcases h.2 with ⟨e, h2⟩ | ⟨g, cap, cur, e, hb, hh, hn, _⟩
  · omega
  · injection e with e1 e2 e3
    subst e1
    refine ⟨g, rfl, hb, (Array.getElem?_eq_some_iff.1 hh).1, by omega, fun j u hu => ?_⟩
    have := h.cells (g := g) rfl j u hu
    rwa [show ((⟨g, 0, none⟩ : Addr).add j) = ⟨g, j, none⟩ by unfold Addr.add; split <;> simp_all] at this
def attCs (l : List Att) : List Value := l.flatMap attC
theorem attCs_length : ∀ l : List Att, (attCs l).length = l.length * 4
  | [] => rfl
  | a :: l => by
    show (attC a ++ attCs l).length = _
    rw [List.length_append, attCs_length l, List.length_cons]
    simp [attC]
    omega
theorem attCs_at : ∀ (l : List Att) (k i : Nat) (h : k < l.length), i < 4 → (attCs l)[k * 4 + i]? = (attC l[k])[i]?
  | a :: l, 0, i, h, hi => by
    show (attC a ++ attCs l)[0 * 4 + i]? = _
    rw [List.getElem?_append_left (by simp [attC]; omega)]
    simp
  | a :: l, k + 1, i, h, hi => by
    show (attC a ++ attCs l)[(k + 1) * 4 + i]? = _
    rw [List.getElem?_append_right (by simp [attC]; omega), show (k + 1) * 4 + i - (attC a).length = k * 4 + i by simp [attC]; omega, attCs_at l k i (by simpa using h) hi]
    simp
theorem attCs_one (l : List Att) : ∀ u ∈ attCs l, u.oneCell' = true := by
  intro u hu
  obtain ⟨a, _, h⟩ := List.mem_flatMap.1 hu
  simp [attC] at h
  rcases h with rfl | rfl | rfl | rfl <;> rfl
theorem atts_lies {W : World} {S : Nat → Prop} {la : Option Addr} {l : List Att} (h : AttsAt W S la l) (h0 : 0 < l.length) : ∃ g o, la = some ⟨g, o, none⟩ ∧ S g ∧ ∀ j u, (attCs l)[j]? = some u → W.cell? ((⟨g, o, none⟩ : Addr).add j) = some u := by
  obtain ⟨g, o, e, hg, hc⟩ := h.2.2 h0
  refine ⟨g, o, e, hg, fun j u hu => ?_⟩
  rw [show ((⟨g, o, none⟩ : Addr).add j) = ⟨g, o + j, none⟩ by unfold Addr.add; split <;> simp_all]
  have hj : j < l.length * 4 := by rw [← attCs_length]; exact (List.getElem?_eq_some_iff.1 hu).1
  obtain ⟨k, i, rfl, hi⟩ : ∃ k i, j = k * 4 + i ∧ i < 4 := ⟨j / 4, j % 4, by omega, by omega⟩
  have hk : k < l.length := by omega
  rw [attCs_at l k i hk hi] at hu
  obtain ⟨c0, c1, c2, c3⟩ := hc k hk
  rcases (show i = 0 ∨ i = 1 ∨ i = 2 ∨ i = 3 by omega) with rfl | rfl | rfl | rfl
  · simp [attC] at hu; rw [← hu, Nat.add_zero]; exact c0
  · simp [attC] at hu; rw [← hu, ← Nat.add_assoc]; exact c1
  · simp [attC] at hu; rw [← hu, ← Nat.add_assoc]; exact c2
  · simp [attC] at hu; rw [← hu, ← Nat.add_assoc]; exact c3
/-- A row of one's own, to be read. -/
theorem row_atts {W : World} {z n d : Nat} {b : Option Addr} {l : List Att} (h : W.ownsRow z 31 4 (.slice b n d) n (attCs l)) (hn : n = l.length) (hl : l.length ≤ maxLen) (hok : ∀ v ∈ l, attOk v) : AttsAt W (Old W.heap.size) b l := by
  refine ⟨hl, hok, fun h0 => ?_⟩
  obtain ⟨g, rfl, hz, hg, hd, hc⟩ := cell_of_ownA h (by omega)
  refine ⟨g, 0, rfl, hg, fun k hk => ?_⟩
  refine ⟨hc _ _ ?_, hc _ _ ?_, hc _ _ ?_, hc _ _ ?_⟩
  · rw [Nat.zero_add, show k * 4 = k * 4 + 0 from rfl, attCs_at l k 0 hk (by omega)]; rfl
  · rw [Nat.zero_add, attCs_at l k 1 hk (by omega)]; rfl
  · rw [Nat.zero_add, attCs_at l k 2 hk (by omega)]; rfl
  · rw [Nat.zero_add, attCs_at l k 3 hk (by omega)]; rfl
end Go.Proofs.Ytcajcmaldnmbjaa.Ev
/-
  append of a slice that holds nothing, to one that has room for it: the first one is the answer, nothing is written. No function of the program here.
-/
namespace Go.Proofs.Ytcajcmaldnmbjaa.Ev
open Go.RowKit
variable {P : Program}
theorem run_append_zero (w : World) (t ty e : TypeId) (i : TypeInfo) (ht : P.underlying t = some (.slice e)) (hi : P.info? e = some i) (g n cap : Nat) (ad : Option Addr) (c : Nat) (hcap : n ≤ cap) :
    (Builtin.append_ #[t, t] ty #[.slice (some ⟨g, 0, none⟩) n cap, .slice ad 0 c]).run P w = .ok (.slice (some ⟨g, 0, none⟩) n cap) w := by
  have h1 : ∀ a u, (storeCells a []).run P u = .ok () u := fun a u => by simp [storeCells]
  have h2 : ∀ a u, (loadCells a 0).run P u = .ok #[] u := fun a u => by simp [loadCells, loadCellsFrom]
  cases ad <;> simp [h1, h2, Builtin.append_, run_underlying ht, sizeOf, typeInfo, hi, Builtin.lenOf, hcap, Builtin.firstCells, Addr.add_lit]
theorem wp_append_zero {w : World} {o : Oper} {a : Act} {K : Act → World → Prop} {Q : Exit → Act → World → Prop} (s x : Operand) (t e : TypeId)
    (ho : o.op = .call { callee := .builtin .append, args := #[s, x], argTypes := #[t, t] }) (i : TypeInfo) (ht : P.underlying t = some (.slice e)) (hi : P.info? e = some i)
    (g n cap : Nat) (ad : Option Addr) (c : Nat) (hs : a.eval s = .slice (some ⟨g, 0, none⟩) n cap) (hx : a.eval x = .slice ad 0 c) (hcap : n ≤ cap)
    (h : K (a.put o.dst (.slice (some ⟨g, 0, none⟩) n cap)) w) : o.wp P a w K Q := by
  unfold Oper.wp execOp
  simp only [ho, resolve, invoke, builtin, Sem.run_bind, Sem.run_pure, Result.andThen_ok, List.map_toArray, List.map_cons, List.map_nil, hs, hx, run_append_zero (P := P) w t o.type e i ht hi g n cap ad c hcap]
  exact h
theorem own_cap {w : World} {base : Nat} {e : TypeId} {size : Nat} {g : Addr} {m cap n : Nat} {xs : List Value} (h : w.ownsRow base e size (.slice (some g) m cap) n xs) : n ≤ cap := by
  rcases h.2 with ⟨h0, _⟩ | ⟨g', cap', cur, hv, hbg, hg, hnc, hcm, hcs, htake⟩
  · cases h0
  · cases hv
    exact hnc
end Go.Proofs.Ytcajcmaldnmbjaa.Ev
/-
  Contract of the document's answer Name: is a text a name? Memory that was there is left as it was.
-/
namespace Go.Proofs.Ytcajcmaldnmbjaa.Fl
open Go.RowKit Go.Proofs.Ytcajcmaldnmbjaa.Tk
set_option linter.unusedVariables false
set_option linter.unusedSimpArgs false

theorem name_nil : nameB [] = false := rfl
end Go.Proofs.Ytcajcmaldnmbjaa.Fl
/-
  Contract of the document's answer leaf: may a filter without parts be? Memory that was there is left as it was.
-/
namespace Go.Proofs.Ytcajcmaldnmbjaa.Fl
open Go.RowKit Go.Proofs.Ytcajcmaldnmbjaa.Tk
set_option linter.unusedVariables false
set_option linter.unusedSimpArgs false

/-- Is it a value, and of that sort? -/
def valT0 (t : Bool) (v : Att) : Bool := valB v && v.text == t
def LfR (p : Att → Bool) (vs : List Att) (w : World) (vi : Value) (wr : World) : Prop :=
  ∃ k : Nat, k ≤ vs.length ∧ vi = .int .i64 k ∧ Hid (∀ v ∈ vs.take k, p v = true) ∧ Below w.heap.size w wr
theorem val_cases (sn : ByteArray) (t t0 : Bool) (n : Int) (ss : ByteArray) (pl : Bool) (hp : plainB ss.data.toList = pl) (V : Att) (h1 : sn.data.toList = V.name) (h2 : t = V.text) (h3 : n = V.num) (h4 : ss.data.toList = V.str) :
    (¬ sn = ⟨#[]⟩ ∧ valT0 t0 V = false) ∨ (sn = ⟨#[]⟩ ∧ t = true ∧ t0 = false ∧ valT0 t0 V = false) ∨ (sn = ⟨#[]⟩ ∧ t = false ∧ t0 = true ∧ valT0 t0 V = false) ∨
    (sn = ⟨#[]⟩ ∧ t = true ∧ t0 = true ∧ ¬ n = 0 ∧ valT0 t0 V = false) ∨ (sn = ⟨#[]⟩ ∧ t = true ∧ t0 = true ∧ n = 0 ∧ pl = false ∧ valT0 t0 V = false) ∨ (sn = ⟨#[]⟩ ∧ t = true ∧ t0 = true ∧ n = 0 ∧ pl = true ∧ valT0 t0 V = true) ∨
    (sn = ⟨#[]⟩ ∧ t = false ∧ t0 = false ∧ ¬ ss = ⟨#[]⟩ ∧ valT0 t0 V = false) ∨ (sn = ⟨#[]⟩ ∧ t = false ∧ t0 = false ∧ ss = ⟨#[]⟩ ∧ valT0 t0 V = true) := by
  have hn : sn = ⟨#[]⟩ ↔ V.name = [] := by rw [← h1]; obtain ⟨⟨l⟩⟩ := sn; simp
  have hs : ss = ⟨#[]⟩ ↔ V.str = [] := by rw [← h4]; obtain ⟨⟨l⟩⟩ := ss; simp
  rw [h4] at hp
  subst h2 h3
  by_cases e1 : V.name = []
  · cases ht : V.text <;> cases t0
    · by_cases e2 : V.str = []
      · exact Or.inr (Or.inr (Or.inr (Or.inr (Or.inr (Or.inr (Or.inr ⟨hn.2 e1, rfl, rfl, hs.2 e2, by simp [valT0, valB, e1, e2, ht]⟩))))))
      · exact Or.inr (Or.inr (Or.inr (Or.inr (Or.inr (Or.inr (Or.inl ⟨hn.2 e1, rfl, rfl, fun h => e2 (hs.1 h), by simp [valT0, valB, e1, e2, ht]⟩))))))
    · exact Or.inr (Or.inr (Or.inl ⟨hn.2 e1, rfl, rfl, by simp [valT0, ht]⟩))
    · exact Or.inr (Or.inl ⟨hn.2 e1, rfl, rfl, by simp [valT0, ht]⟩)
    · by_cases e2 : V.num = 0
      · cases hq : pl
        · exact Or.inr (Or.inr (Or.inr (Or.inr (Or.inl ⟨hn.2 e1, rfl, rfl, e2, rfl, by rw [hq] at hp; simp [valT0, valB, e1, e2, ht, hp]⟩))))
        · exact Or.inr (Or.inr (Or.inr (Or.inr (Or.inr (Or.inl ⟨hn.2 e1, rfl, rfl, e2, rfl, by rw [hq] at hp; simp [valT0, valB, e1, e2, ht, hp]⟩)))))
      · exact Or.inr (Or.inr (Or.inr (Or.inl ⟨hn.2 e1, rfl, rfl, e2, by simp [valT0, valB, e1, e2, ht]⟩)))
  · exact Or.inl ⟨fun h => e1 (hn.1 h), by simp [valT0, valB, e1]⟩
/-- What is asked of a filter without parts, behind the values. -/
def tailB (k : Int) (o : List UInt8) (vs : List Att) : Bool := if k = 6 then o == [] else if k = 5 then decide (vs.length = 1) && firstText vs && o == [] else decide (vs.length = 1) && opB o
theorem leafB_eq {k : Int} (n o : List UInt8) (v : Att) (r : List Att) (lp : Nat) : (leafB k n o (v :: r) && decide (lp = 0)) = (nameB n && decide (lp = 0) && decide ((v :: r).length ≤ 20) && (v :: r).all (valT0 v.text) && tailB k o (v :: r)) := by
  have e1 : decide ((v :: r).length ≤ 20) = decide (r.length < 20) := decide_eq_decide.2 (by simp only [List.length_cons]; omega)
  have e2 : (v :: r).all (valT0 v.text) = (valB v && r.all fun u => valB u && u.text == v.text) := by
    simp only [List.all_cons, valT0, beq_self_eq_true, Bool.and_true]
    rfl
  have e3 : decide ((v :: r).length = 1) = r.isEmpty := by cases r <;> simp
  rw [leafB, tailB, e1, e2, e3, firstText]
  by_cases h6 : k = 6
  · simp only [h6, if_true]
    cases nameB n <;> cases decide (lp = 0) <;> cases decide (r.length < 20) <;> cases valB v <;> cases (r.all fun u => valB u && u.text == v.text) <;> simp
  · by_cases h5 : k = 5
    · simp only [h5, if_true]
      cases nameB n <;> cases decide (lp = 0) <;> cases decide (r.length < 20) <;> cases valB v <;> cases (r.all fun u => valB u && u.text == v.text) <;> simp
    · rw [if_neg h6, if_neg h5]
      cases nameB n <;> cases decide (lp = 0) <;> cases decide (r.length < 20) <;> cases valB v <;> cases (r.all fun u => valB u && u.text == v.text) <;> simp
theorem beq_bytes' (s r : ByteArray) : (s.toList == r.toList) = decide (s = r) := by
  by_cases h : s = r
  · rw [decide_eq_true h, h]; simp
  · rw [decide_eq_false h, beq_eq_false_iff_ne]
    intro e
    rw [Lib.toList_data, Lib.toList_data] at e
    exact h (by obtain ⟨⟨a⟩⟩ := s; obtain ⟨⟨b⟩⟩ := r; simpa using e)
theorem ne_bytes' {s : ByteArray} (h : ¬ s = ⟨#[]⟩) : ¬ s.toList = [] := by
  have := beq_bytes' s ⟨#[]⟩
  rw [decide_eq_false h, beq_eq_false_iff_ne, Lib.toList_data ⟨#[]⟩] at this
  exact this
end Go.Proofs.Ytcajcmaldnmbjaa.Fl
/-
  Contracts of Same of package filter, of slices.Equal and slices.EqualFunc as it calls them: are two filters the same? To any depth. Memory that was there is left as it was.
-/
namespace Go.Proofs.Ytcajcmaldnmbjaa.Fl
open Go.RowKit
set_option linter.unusedVariables false
set_option linter.unusedSimpArgs false

def eqL {α : Type} (p : α → α → Bool) : List α → List α → Bool
  | [], [] => true
  | u :: r, v :: s => p u v && eqL p r s
  | _, _ => false
theorem eqL_len {α : Type} {p : α → α → Bool} : ∀ {l m : List α}, l.length ≠ m.length → eqL p l m = false
  | [], [], h => absurd rfl h
  | [], _ :: _, _ => rfl
  | _ :: _, [], _ => rfl
  | u :: r, v :: s, h => by rw [eqL, eqL_len (by simpa using h), Bool.and_false]
theorem eqL_no {α : Type} {p : α → α → Bool} : ∀ {l m : List α} {k : Nat} {u v : α}, l[k]? = some u → m[k]? = some v → p u v = false → eqL p l m = false
  | [], _, k, u, v, h, _, _ => by simp at h
  | _ :: _, [], k, u, v, _, h, _ => by simp at h
  | a :: r, b :: s, 0, u, v, h1, h2, h => by
    simp at h1 h2
    rw [eqL, h1, h2, h, Bool.false_and]
  | a :: r, b :: s, k + 1, u, v, h1, h2, h => by rw [eqL, eqL_no (k := k) (by simpa using h1) (by simpa using h2) h, Bool.and_false]
theorem eqL_yes {α : Type} {p : α → α → Bool} : ∀ {l m : List α}, l.length = m.length → (∀ (k : Nat) (u v : α), k < l.length → l[k]? = some u → m[k]? = some v → p u v = true) → eqL p l m = true
  | [], [], _, _ => rfl
  | [], _ :: _, h, _ => by simp at h
  | _ :: _, [], h, _ => by simp at h
  | u :: r, v :: s, h, g => by
    rw [eqL, g 0 u v (by simp) (by simp) (by simp), Bool.true_and]
    exact eqL_yes (by simpa using h) fun k a b hk ha hb => g (k + 1) a b (by simpa using hk) (by simpa using ha) (by simpa using hb)
theorem eqL_more {α : Type} {p : α → α → Bool} {l m : List α} {k : Nat} {u v : α} (h : ∀ (i : Nat) (u v : α), i < k → l[i]? = some u → m[i]? = some v → p u v = true) (hu : l[k]? = some u) (hv : m[k]? = some v) (hp : p u v = true) :
    ∀ (i : Nat) (u v : α), i < k + 1 → l[i]? = some u → m[i]? = some v → p u v = true := by
  intro i a b hi ha hb
  by_cases e : i = k
  · subst e
    rw [hu] at ha
    rw [hv] at hb
    cases ha
    cases hb
    exact hp
  · exact h i a b (by omega) ha hb
def attEq (u v : Att) : Bool := u.name == v.name && u.text == v.text && u.num == v.num && u.str == v.str
def attsEq (l m : List Att) : Bool := eqL attEq l m
mutual
def sameB : Flt → Flt → Bool
  | .mk k n o vs ps, g => k == g.kind && n == g.name && o == g.op && attsEq vs g.vals && sameL ps g.parts
def sameL : List Flt → List Flt → Bool
  | [], [] => true
  | p :: r, q :: s => sameB p q && sameL r s
  | _, _ => false
end
theorem sameL_eq : ∀ l m : List Flt, sameL l m = eqL sameB l m
  | [], [] => by rw [sameL, eqL]
  | [], _ :: _ => by rw [sameL, eqL] <;> simp
  | _ :: _, [] => by rw [sameL, eqL] <;> simp
  | p :: r, q :: s => by rw [sameL, eqL, sameL_eq r s]
theorem neq_att (s1 : ByteArray) (t1 : Bool) (n1 : Int) (r1 s2 : ByteArray) (t2 : Bool) (n2 : Int) (r2 : ByteArray) (w : World) :
    (binOp .neq 31 (.agg #[.string s1, .bool t1, .int .i64 n1, .string r1]) (.agg #[.string s2, .bool t2, .int .i64 n2, .string r2])).run Try.prog w = .ok (.bool (!(s1.toList == s2.toList && t1 == t2 && n1 == n2 && r1.toList == r2.toList))) w := by
  simp [go_sem]
  by_cases h1 : s1.toList = s2.toList <;> by_cases h2 : t1 = t2 <;> by_cases h3 : n1 = n2 <;> by_cases h4 : r1.toList = r2.toList <;> simp [h1, h2, h3, h4]
theorem att_eq {u v : Att} {s1 r1 s2 r2 : ByteArray} (h1 : s1.data.toList = u.name) (h2 : r1.data.toList = u.str) (h3 : s2.data.toList = v.name) (h4 : r2.data.toList = v.str) : (s1.toList == s2.toList && u.text == v.text && u.num == v.num && r1.toList == r2.toList) = attEq u v := by
  rw [Lib.toList_data, Lib.toList_data, Lib.toList_data, Lib.toList_data, h1, h2, h3, h4, attEq]
def EqR {α : Type} (p : α → α → Bool) (l m : List α) (w : World) (vi : Value) (wr : World) : Prop :=
  ∃ k : Nat, k ≤ l.length ∧ vi = .int .i64 k ∧ Hid (∀ (i : Nat) (u v : α), i < k → l[i]? = some u → m[i]? = some v → p u v = true) ∧ Below w.heap.size w wr

end Go.Proofs.Ytcajcmaldnmbjaa.Fl
/-
  Contract of Same of package filter: are two filters the same? To any depth. Memory that was there is left as it was.
-/
namespace Go.Proofs.Ytcajcmaldnmbjaa.Fl
open Go.RowKit
set_option linter.unusedVariables false
set_option linter.unusedSimpArgs false

theorem beq_bytes (s r : ByteArray) : (s.toList == r.toList) = decide (s = r) := by
  by_cases h : s = r
  · rw [decide_eq_true h, h]; simp
  · rw [decide_eq_false h, beq_eq_false_iff_ne]
    intro e
    rw [Lib.toList_data, Lib.toList_data] at e
    exact h (by obtain ⟨⟨a⟩⟩ := s; obtain ⟨⟨b⟩⟩ := r; simpa using e)
theorem ne_bytes {s r : ByteArray} (h : ¬ s = r) : ¬ s.toList = r.toList := by
  have := beq_bytes s r
  rw [decide_eq_false h, beq_eq_false_iff_ne] at this
  exact this
theorem bs_inj {s : ByteArray} {l : List UInt8} (h : s.data.toList = l) : s = ⟨l.toArray⟩ := by rw [← h]
end Go.Proofs.Ytcajcmaldnmbjaa.Fl
/-
  Contract of the document's answer fine: may a filter be, but for its depth, and its nodes? Memory that was there is left as it was.
-/
namespace Go.Proofs.Ytcajcmaldnmbjaa.Fl
open Go.RowKit Go.Proofs.Ytcajcmaldnmbjaa.Tk
set_option linter.unusedVariables false
set_option linter.unusedSimpArgs false

def partP (k : Int) (q : Flt) : Bool := fine q && (decide (k = 3) || !decide (q.kind = k))
def FnR (k : Int) (ps : List Flt) (w : World) (vi : Value) (wr : World) : Prop :=
  ∃ j : Nat, j ≤ ps.length ∧ vi = .int .i64 j ∧ Hid (∀ q ∈ ps.take j, partP k q = true) ∧ Below w.heap.size w wr
theorem take_more_flt {ps : List Flt} {j : Nat} {q : Flt} {p : Flt → Bool} (h : ∀ v ∈ ps.take j, p v = true) (hk : ps[j]? = some q) (hv : p q = true) : ∀ v ∈ ps.take (j + 1), p v = true := by
  rw [List.take_add_one, hk]
  intro u hu
  rcases List.mem_append.1 hu with hu | hu
  · exact h u hu
  · simp at hu
    rw [hu]
    exact hv
end Go.Proofs.Ytcajcmaldnmbjaa.Fl
namespace Go.Proofs.Ytcajcmaldnmbjaa.Fl
open Go.RowKit Go.Proofs.Ytcajcmaldnmbjaa.Tk
set_option linter.unusedVariables false
set_option linter.unusedSimpArgs false

mutual
theorem dep_sz : ∀ f : Flt, dep f ≤ sz f
  | .mk _ _ _ _ l => by have := depL_szL l; rw [dep, sz]; omega
theorem depL_szL : ∀ l : List Flt, depL l ≤ szL l
  | [] => by rw [depL, szL]; omega
  | p :: r => by have := dep_sz p; have := depL_szL r; rw [depL, szL]; omega
end
def DpR (ps : List Flt) (w : World) (vn vi : Value) (wr : World) : Prop :=
  ∃ j : Nat, j ≤ ps.length ∧ vi = .int .i64 j ∧ vn = .int .i64 (depL (ps.take j) : Nat) ∧ Below w.heap.size w wr
def NdR (ps : List Flt) (w : World) (vn vi : Value) (wr : World) : Prop :=
  ∃ j : Nat, j ≤ ps.length ∧ vi = .int .i64 j ∧ vn = .int .i64 (1 + szL (ps.take j) : Nat) ∧ Below w.heap.size w wr
theorem depL_step {j : Nat} {ps : List Flt} {q : Flt} (hq : ps[j]? = some q) : depL (ps.take (j + 1)) = max (depL (ps.take j)) (dep q) := by
  rw [List.take_add_one, hq, depL_app]
  simp [depL]
theorem szL_take : ∀ (ps : List Flt) (j : Nat), szL (ps.take j) ≤ szL ps
  | [], j => by simp
  | p :: r, 0 => by simp [szL]
  | p :: r, j + 1 => by have := szL_take r j; rw [List.take_succ_cons, szL, szL]; omega
theorem depL_take (ps : List Flt) (j : Nat) : depL (ps.take j) ≤ szL ps := Nat.le_trans (depL_szL _) (szL_take ps j)
theorem szL_one {ps : List Flt} {q : Flt} {j : Nat} (h : ps[j]? = some q) : sz q ≤ szL ps := sz_mem (List.mem_of_getElem? h)
end Go.Proofs.Ytcajcmaldnmbjaa.Fl
