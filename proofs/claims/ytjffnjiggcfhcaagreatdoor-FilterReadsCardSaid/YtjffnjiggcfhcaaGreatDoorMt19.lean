/-
  A filter is the same as itself; as it alone where it is told by its text. Plain facts.
-/
import Derived.Test.YtjffnjiggcfhcaaGreatDoorMt10
import Derived.Deep.RegionHeld3
import Derived.Test.YtjffnjiggcfhcaaGreatDoorMt09
/-
  Contract of the document's answer Same: are two filters the same? To any depth. Memory that was there is left as it was.
-/
namespace Go.Proofs.YtjffnjiggcfhcaaGreatDoor.Fl
open Go.RowKit
set_option linter.unusedVariables false
set_option linter.unusedSimpArgs false

def RefSameOk (f : Flt) : Prop := ∀ (g : Flt) (a : Option Addr) (c : Nat) (b : Option Addr) (d : Nat) (a' : Option Addr) (c' : Nat) (b' : Option Addr) (d' : Nat) (w : World), FltAt w (Old w.heap.size) f a b → FltAt w (Old w.heap.size) g a' b' →
  Calls Tryz.prog 11 #[.agg #[.int .i64 f.kind, bs f.name, bs f.op, .slice a f.vals.length c, .slice b f.parts.length d], .agg #[.int .i64 g.kind, bs g.name, bs g.op, .slice a' g.vals.length c', .slice b' g.parts.length d']] w fun e w' => e = .returned (.bool (sameB f g)) ∧ Below w.heap.size w w'
theorem s_end {p q r t u v x y z a b c : Prop} {X : Prop} (h : p ∧ q ∧ r ∧ t ∧ u ∧ v ∧ x ∧ y ∧ z ∧ a ∧ b ∧ c ∧ X) : X := h.2.2.2.2.2.2.2.2.2.2.2.2
set_option maxHeartbeats 8000000 in
set_option maxRecDepth 100000 in
theorem refSame_ok (f : Flt) (ih : ∀ q ∈ f.parts, RefSameOk q) : RefSameOk f := by
  obtain ⟨k, nm, o, vs, ps⟩ := f
  rintro ⟨k2, nm2, o2, vs2, ps2⟩ a c b d a' c' b' d' w hF hG
  simp only [Flt.kind, Flt.name, Flt.op, Flt.vals, Flt.parts] at ih ⊢
  have hlen : ps.length ≤ 9223372036854775807 := by have := hF.small.2.2.2.2; simp only [Flt.parts] at this; unfold maxLen at this; omega
  obtain ⟨sn, en, hsn⟩ := bs_bytes nm
  obtain ⟨so, eo, hso⟩ := bs_bytes o
  obtain ⟨sn2, en2, hsn2⟩ := bs_bytes nm2
  obtain ⟨so2, eo2, hso2⟩ := bs_bytes o2
  rw [en, eo, en2, eo2]
  have IH := Lib.hid ih
  have HA1 := Lib.hid hF.atts
  have HA2 := Lib.hid hG.atts
  have HP1 := Lib.hid hF.parts
  have HP2 := Lib.hid hG.parts
  simp only [Flt.vals] at HA1 HA2
  simp only [Flt.parts] at HP1 HP2
  have hv0 : sameB (.mk k nm o vs ps) (.mk k2 nm2 o2 vs2 ps2) = (decide (k = k2) && decide (sn = sn2) && decide (so = so2) && attsEq vs vs2 && sameL ps ps2) := by
    rw [sameB]
    simp only [Flt.kind, Flt.name, Flt.op, Flt.vals, Flt.parts]
    rw [← beq_bytes sn sn2, ← beq_bytes so so2, Lib.toList_data, Lib.toList_data, Lib.toList_data, Lib.toList_data, hsn, hsn2, hso, hso2]
    rfl
  obtain ⟨res, hres⟩ : ∃ x, x = sameB (.mk k nm o vs ps) (.mk k2 nm2 o2 vs2 ps2) := ⟨_, rfl⟩
  obtain ⟨ea, hea⟩ : ∃ x, x = attsEq vs vs2 := ⟨_, rfl⟩
  obtain ⟨el, hel⟩ : ∃ x, x = sameL ps ps2 := ⟨_, rfl⟩
  rw [← hres, ← hea, ← hel] at hv0
  rw [← hres]
  have HEA := Lib.hid hea
  have HEL := Lib.hid hel
  have HV := Lib.hid hv0
  obtain ⟨n1, hn1⟩ : ∃ x, x = vs.length := ⟨_, rfl⟩
  obtain ⟨n2, hn2⟩ : ∃ x, x = vs2.length := ⟨_, rfl⟩
  obtain ⟨l1, hl1⟩ : ∃ x, x = ps.length := ⟨_, rfl⟩
  obtain ⟨l2, hl2⟩ : ∃ x, x = ps2.length := ⟨_, rfl⟩
  have HN1 := Lib.hid hn1
  have HN2 := Lib.hid hn2
  have HL1 := Lib.hid hl1
  have HL2 := Lib.hid hl2
  have hvl : n1 ≤ 9223372036854775807 := by have := hF.atts.1; simp only [Flt.vals] at this; unfold maxLen at this; omega
  rw [← hn1, ← hn2, ← hl1, ← hl2]
  rw [← hl1] at hlen
  clear ih hF hG en eo en2 eo2 hsn hso hsn2 hso2 hv0 hres hea hel hn1 hn2 hl1 hl2
  obtain ⟨w1, hw1⟩ : ∃ v, v = (w.alloc (.cells #[.int .i64 k, .string sn, .string so, .slice a n1 c, .slice b l1 d] 25)).alloc (.cells #[.int .i64 k2, .string sn2, .string so2, .slice a' n2 c', .slice b' l2 d'] 25) := ⟨_, rfl⟩
  have hs1 : (w.alloc (.cells #[.int .i64 k, .string sn, .string so, .slice a n1 c, .slice b l1 d] 25)).heap.size = w.heap.size + 1 := by simp
  have X1 := Lib.hid (show Box w1 w.heap.size (.int .i64 k) (.string sn) (.string so) (.slice a n1 c) (.slice b l1 d) by rw [hw1]; exact (Box.new ..).later ((Below.refl _ _).alloc (Nat.le_refl _) _))
  have X2 := Lib.hid (show Box w1 (w.heap.size + 1) (.int .i64 k2) (.string sn2) (.string so2) (.slice a' n2 c') (.slice b' l2 d') by rw [hw1, ← hs1]; exact Box.new ..)
  have HB := Lib.hid (show Below w.heap.size w w1 by rw [hw1]; exact ((Below.refl _ _).alloc (Nat.le_refl _) _).alloc (by rw [hs1]; omega) _)
  have HW := Lib.hid hw1
  clear hw1 hs1
  by_cases h1 : k = k2
  case neg =>
    have HF0 := Lib.hid (show res = false by rw [HV.out, decide_eq_false h1]; simp)
    go_enter Tryz.func11, Tryz.ntmps11
    go_wp2_with fail
    go_ret
    exact ⟨by rw [HF0.out]; rfl, by rw [← HW.out]; exact HB.out⟩
  subst h1
  by_cases h2 : sn = sn2
  case neg =>
    have h2l := ne_bytes h2
    have HF0 := Lib.hid (show res = false by rw [HV.out, decide_eq_false h2]; simp)
    go_enter Tryz.func11, Tryz.ntmps11
    go_wp2_with fail
    go_ret
    exact ⟨by rw [HF0.out]; rfl, by rw [← HW.out]; exact HB.out⟩
  subst h2
  by_cases h3 : so = so2
  case neg =>
    have h3l := ne_bytes h3
    have HF0 := Lib.hid (show res = false by rw [HV.out, decide_eq_false h3]; simp)
    go_enter Tryz.func11, Tryz.ntmps11
    go_wp2_with fail
    go_ret
    exact ⟨by rw [HF0.out]; rfl, by rw [← HW.out]; exact HB.out⟩
  subst h3
  by_cases h4 : n1 = n2
  case neg =>
    have h4z : ¬ (n1 : Int) = (n2 : Int) := by omega
    have HF1 := Lib.hid (show ea = false by rw [HEA.out]; exact eqL_len (by have := HN1.out; have := HN2.out; omega))
    have HF0 := Lib.hid (show res = false by rw [HV.out, HF1.out]; simp)
    go_enter Tryz.func11, Tryz.ntmps11
    go_wp2_with fail
    go_ret
    exact ⟨by rw [HF0.out]; rfl, by rw [← HW.out]; exact HB.out⟩
  subst h4
  by_cases h5 : l1 = l2
  case neg =>
    have h5z : ¬ (l1 : Int) = (l2 : Int) := by omega
    have HF1 := Lib.hid (show el = false by rw [HEL.out, sameL_eq]; exact eqL_len (by have := HL1.out; have := HL2.out; omega))
    have HF0 := Lib.hid (show res = false by rw [HV.out, HF1.out]; simp)
    go_enter Tryz.func11, Tryz.ntmps11
    go_wp2_with fail
    go_ret
    exact ⟨by rw [HF0.out]; rfl, by rw [← HW.out]; exact HB.out⟩
  subst h5
  have HRE := Lib.hid (show res = (ea && el) by rw [HV.out]; simp)
  clear HV
  go_enter Tryz.func11, Tryz.ntmps11
  go_wp2_with fail
  rw [← HW.out]
  go_loopw [5] (fun vi wr => EqR attEq vs vs2 w1 vi wr) (fun vi _ => n1 - (intOf vi).toNat)
  case atStart => exact ⟨0, Nat.zero_le _, rfl, Lib.hid (fun i u v h => absurd h (Nat.not_lt_zero _)), Below.refl _ _⟩
  case round =>
    obtain ⟨k1, hk, rfl, hall, hBB⟩ := hrel
    have HK := Lib.hid hk
    have HBB := Lib.hid hBB
    have HBW := Lib.hid (HB.out.trans (hBB.mono HB.out.size))
    obtain ⟨p0, p1, p2, p3, p4⟩ := X1.out.later hBB
    obtain ⟨r0, r1, r2, r3, r4⟩ := X2.out.later hBB
    clear hk hBB
    by_cases hlt : k1 < n1
    · have hlz : (k1 : Int) < (n1 : Int) := by omega
      have hku : k1 < vs.length := by rw [← HN1.out]; exact hlt
      have hkv : k1 < vs2.length := by rw [← HN2.out]; exact hlt
      obtain ⟨g, o, hg, _, hc⟩ := (HA1.out.later HBW.out).2.2 (by omega)
      obtain ⟨g2, o2, hg2, _, hc2⟩ := (HA2.out.later HBW.out).2.2 (by omega)
      obtain ⟨c0, c1, c2, c3⟩ := hc k1 hku
      obtain ⟨d0, d1, d2, d3⟩ := hc2 k1 hkv
      obtain ⟨U, hU⟩ : ∃ V, V = vs[k1] := ⟨_, rfl⟩
      obtain ⟨V, hV⟩ : ∃ V, V = vs2[k1] := ⟨_, rfl⟩
      rw [← hU] at c0 c1 c2 c3
      rw [← hV] at d0 d1 d2 d3
      obtain ⟨s1, e1, f1⟩ := bs_bytes U.name
      obtain ⟨t1, e2, f2⟩ := bs_bytes U.str
      obtain ⟨s2, e3, f3⟩ := bs_bytes V.name
      obtain ⟨t2, e4, f4⟩ := bs_bytes V.str
      have HEQ := att_eq f1 f2 f3 f4
      obtain ⟨x1, hx1⟩ : ∃ x, x = U.text := ⟨_, rfl⟩
      obtain ⟨y1, hy1⟩ : ∃ x, x = U.num := ⟨_, rfl⟩
      obtain ⟨x2, hx2⟩ : ∃ x, x = V.text := ⟨_, rfl⟩
      obtain ⟨y2, hy2⟩ : ∃ x, x = V.num := ⟨_, rfl⟩
      rw [e1] at c0
      rw [← hx1] at c1 HEQ
      rw [← hy1] at c2 HEQ
      rw [e2] at c3
      rw [e3] at d0
      rw [← hx2] at d1 HEQ
      rw [← hy2] at d2 HEQ
      rw [e4] at d3
      have q := neq_att s1 x1 y1 t1 s2 x2 y2 t2
      obtain ⟨eq, heq⟩ : ∃ x, x = (s1.toList == s2.toList && x1 == x2 && y1 == y2 && t1.toList == t2.toList) := ⟨_, rfl⟩
      rw [← heq] at q HEQ
      have HE := Lib.hid HEQ
      have HUK := Lib.hid (show vs[k1]? = some U by rw [hU]; exact List.getElem?_eq_getElem hku)
      have HVK := Lib.hid (show vs2[k1]? = some V by rw [hV]; exact List.getElem?_eq_getElem hkv)
      subst hg
      subst hg2
      clear hc hc2 hU hV e1 e2 e3 e4 f1 f2 f3 f4 HEQ hx1 hy1 hx2 hy2 heq p0 p1 p2 r0 r1 r2
      cases eq
      · have HF := Lib.hid (show res = false by rw [HRE.out, HEA.out, show attsEq vs vs2 = false from eqL_no HUK.out HVK.out HE.out.symm]; rfl)
        go_wp2_with fail
        go_region
        all_goals
          go_wp2_with fail
          go_ret
          exact ⟨by rw [HF.out]; rfl, HBW.out.drew⟩
      · have HF := Lib.hid (eqL_more hall.out HUK.out HVK.out HE.out.symm)
        go_wp2_with fail
        go_region
        all_goals
          go_wp2_with fail
          go_roundw
          case rel => exact ⟨k1 + 1, by omega, by go_num, HF, HBB.out.drew⟩
          case measure => simp [intOf]; omega
    · have hlz : ¬ (k1 : Int) < (n1 : Int) := by omega
      have HRL := Lib.hid (show res = el by
        rw [HRE.out, HEA.out, show attsEq vs vs2 = true from eqL_yes (HN1.out.symm.trans HN2.out) fun i u v hi => hall.out i u v (by have := HN1.out; omega)]
        rfl)
      obtain ⟨wb, hwb⟩ : ∃ v, v = wr := ⟨_, rfl⟩
      rw [← hwb] at HBB HBW p0 p1 p2 p3 p4 r0 r1 r2 r3 r4 ⊢
      clear hwb hall HK p0 p1 p2 r0 r1 r2
      go_wp2_with fail
      go_loopw [6] (fun vi wr => EqR sameB ps ps2 w1 vi wr) (fun vi _ => l1 - (intOf vi).toNat)
      case atStart => exact ⟨0, Nat.zero_le _, rfl, Lib.hid (fun i u v h => absurd h (Nat.not_lt_zero _)), HBB.out⟩
      case round =>
        obtain ⟨j, hk, rfl, hall, hBB⟩ := hrel
        have HK := Lib.hid hk
        have HBC := Lib.hid hBB
        have HBD := Lib.hid (HB.out.trans (hBB.mono HB.out.size))
        obtain ⟨p0, p1, p2, p5, p6⟩ := X1.out.later hBB
        obtain ⟨r0, r1, r2, r5, r6⟩ := X2.out.later hBB
        clear hk hBB p0 p1 p2 r0 r1 r2 p3 p4 r3 r4 p5 r5
        by_cases hlt2 : j < l1
        · have hjz : (j : Int) < (l1 : Int) := by omega
          have hku : j < ps.length := by rw [← HL1.out]; exact hlt2
          have hkv : j < ps2.length := by rw [← HL2.out]; exact hlt2
          obtain ⟨g, o, a1, c1, b1, d1, hg, hgl, h5, hf⟩ := (HP1.out.later HBD.out).get j hku
          obtain ⟨g2, o2, a2, c2, b2, d2, hg2, hgl2, h52, hf2⟩ := (HP2.out.later HBD.out).get j hkv
          obtain ⟨U, hU⟩ : ∃ V, V = ps[j] := ⟨_, rfl⟩
          obtain ⟨V, hV⟩ : ∃ V, V = ps2[j] := ⟨_, rfl⟩
          rw [← hU] at h5 hf
          rw [← hV] at h52 hf2
          have HUK := Lib.hid (show ps[j]? = some U by rw [hU]; exact List.getElem?_eq_getElem hku)
          have HVK := Lib.hid (show ps2[j]? = some V by rw [hV]; exact List.getElem?_eq_getElem hkv)
          have CI := Lib.hid (fun W h1 h2 => IH.out U (List.mem_of_getElem? HUK.out) V a1 c1 b1 d1 a2 c2 b2 d2 W h1 h2)
          obtain ⟨eq, heq⟩ : ∃ x, x = sameB U V := ⟨_, rfl⟩
          rw [← heq] at CI
          have HE := Lib.hid heq
          have HF1 := Lib.hid hf
          have HF2 := Lib.hid hf2
          have HGL := Lib.hid hgl
          have HGL2 := Lib.hid hgl2
          subst hg
          subst hg2
          clear hU hV hf hf2 hgl hgl2 heq
          obtain ⟨e0, e1, e2, e3, e4⟩ := h5
          rw [Nat.zero_add] at e0 e1 e2 e3 e4
          obtain ⟨un, hun, _⟩ := bs_bytes U.name
          obtain ⟨uo, huo, _⟩ := bs_bytes U.op
          rw [hun] at e1 CI
          rw [huo] at e2 CI
          obtain ⟨uk, huk⟩ : ∃ x, x = U.kind := ⟨_, rfl⟩
          obtain ⟨ul, hul⟩ : ∃ x, x = U.vals.length := ⟨_, rfl⟩
          obtain ⟨up, hup⟩ : ∃ x, x = U.parts.length := ⟨_, rfl⟩
          rw [← huk] at e0 CI
          rw [← hul] at e3 CI
          rw [← hup] at e4 CI
          have Ee := Lib.hid (And.intro e0 (And.intro e1 (And.intro e2 (And.intro e3 e4))))
          clear hun huo huk hul hup
          obtain ⟨x0, x1, x2, x3, x4⟩ := h52
          rw [Nat.zero_add] at x0 x1 x2 x3 x4
          obtain ⟨vn, hvn, _⟩ := bs_bytes V.name
          obtain ⟨vo, hvo, _⟩ := bs_bytes V.op
          rw [hvn] at x1 CI
          rw [hvo] at x2 CI
          obtain ⟨vk, hvk⟩ : ∃ x, x = V.kind := ⟨_, rfl⟩
          obtain ⟨vl, hvl⟩ : ∃ x, x = V.vals.length := ⟨_, rfl⟩
          obtain ⟨vp, hvp⟩ : ∃ x, x = V.parts.length := ⟨_, rfl⟩
          rw [← hvk] at x0 CI
          rw [← hvl] at x3 CI
          rw [← hvp] at x4 CI
          have Ex := Lib.hid (And.intro x0 (And.intro x1 (And.intro x2 (And.intro x3 x4))))
          clear hvn hvo hvk hvl hvp
          have WA := Lib.hid (show ∀ W, Below w.heap.size wr W → FltAt W (Old W.heap.size) U a1 b1 ∧ FltAt W (Old W.heap.size) V a2 b2 from fun W hW =>
            ⟨(HF1.out.later hW).wide (Nat.le_trans HBD.out.size hW.size), (HF2.out.later hW).wide (Nat.le_trans HBD.out.size hW.size)⟩)
          have HS := Lib.hid (show ∀ W, Below w1.heap.size wr W → (W.cell? ⟨w.heap.size, 4, none⟩ = some (.slice (some ⟨g, o, none⟩) l1 d) ∧ W.cell? ⟨w.heap.size + 1, 4, none⟩ = some (.slice (some ⟨g2, o2, none⟩) l1 d') ∧ W.cell? ⟨g, o + j * 5, none⟩ = some (.int .i64 uk) ∧ W.cell? ⟨g, o + j * 5 + 1, none⟩ = some (.string un) ∧ W.cell? ⟨g, o + j * 5 + 2, none⟩ = some (.string uo) ∧ W.cell? ⟨g, o + j * 5 + 3, none⟩ = some (.slice a1 ul c1) ∧ W.cell? ⟨g, o + j * 5 + 4, none⟩ = some (.slice b1 up d1) ∧ W.cell? ⟨g2, o2 + j * 5, none⟩ = some (.int .i64 vk) ∧ W.cell? ⟨g2, o2 + j * 5 + 1, none⟩ = some (.string vn) ∧ W.cell? ⟨g2, o2 + j * 5 + 2, none⟩ = some (.string vo) ∧ W.cell? ⟨g2, o2 + j * 5 + 3, none⟩ = some (.slice a2 vl c2) ∧ W.cell? ⟨g2, o2 + j * 5 + 4, none⟩ = some (.slice b2 vp d2) ∧ Below w1.heap.size wr W) from fun W hW =>
            have q1 := fun x => hW.cell (p := ⟨g, x, none⟩) (Nat.lt_of_lt_of_le HGL.out HB.out.size)
            have q2 := fun x => hW.cell (p := ⟨g2, x, none⟩) (Nat.lt_of_lt_of_le HGL2.out HB.out.size)
            ⟨(hW.cell (p := ⟨w.heap.size, 4, none⟩) X1.out.lt).trans (X1.out.later HBC.out).2.2.2.2, (hW.cell (p := ⟨w.heap.size + 1, 4, none⟩) X2.out.lt).trans (X2.out.later HBC.out).2.2.2.2,
              (q1 _).trans Ee.out.1, (q1 _).trans Ee.out.2.1, (q1 _).trans Ee.out.2.2.1, (q1 _).trans Ee.out.2.2.2.1, (q1 _).trans Ee.out.2.2.2.2, (q2 _).trans Ex.out.1, (q2 _).trans Ex.out.2.1, (q2 _).trans Ex.out.2.2.1, (q2 _).trans Ex.out.2.2.2.1, (q2 _).trans Ex.out.2.2.2.2, hW⟩)
          have HD0 := Lib.hid (show Below w1.heap.size wr wr.drew from (Below.refl _ _).drew)
          clear e0 e1 e2 e3 e4 x0 x1 x2 x3 x4
          cases eq
          · have HF := Lib.hid (show res = false by rw [HRL.out, HEL.out, sameL_eq]; exact eqL_no HUK.out HVK.out HE.out.symm)
            go_wp2_with fail
            go_region_held3 (fun W => (W.cell? ⟨w.heap.size, 4, none⟩ = some (.slice (some ⟨g, o, none⟩) l1 d) ∧ W.cell? ⟨w.heap.size + 1, 4, none⟩ = some (.slice (some ⟨g2, o2, none⟩) l1 d') ∧ W.cell? ⟨g, o + j * 5, none⟩ = some (.int .i64 uk) ∧ W.cell? ⟨g, o + j * 5 + 1, none⟩ = some (.string un) ∧ W.cell? ⟨g, o + j * 5 + 2, none⟩ = some (.string uo) ∧ W.cell? ⟨g, o + j * 5 + 3, none⟩ = some (.slice a1 ul c1) ∧ W.cell? ⟨g, o + j * 5 + 4, none⟩ = some (.slice b1 up d1) ∧ W.cell? ⟨g2, o2 + j * 5, none⟩ = some (.int .i64 vk) ∧ W.cell? ⟨g2, o2 + j * 5 + 1, none⟩ = some (.string vn) ∧ W.cell? ⟨g2, o2 + j * 5 + 2, none⟩ = some (.string vo) ∧ W.cell? ⟨g2, o2 + j * 5 + 3, none⟩ = some (.slice a2 vl c2) ∧ W.cell? ⟨g2, o2 + j * 5 + 4, none⟩ = some (.slice b2 vp d2) ∧ Below w1.heap.size wr W))
              (first | exact HS.out _ HD0.out | exact HS.out _ HB1.out)
              (first | (go_at_call 11; have HX := Lib.hid (s_end (by assumption)); refine Calls.mono (CI.out _ (WA.out _ (HX.out.mono HB.out.size)).1 (WA.out _ (HX.out.mono HB.out.size)).2) ?_; rintro e w2 ⟨rfl, hb⟩; have HB1 := Lib.hid (HX.out.trans (hb.mono (Nat.le_trans HBC.out.size HX.out.size))); clear hb))
            go_wp2_with fail
            go_ret
            exact ⟨by rw [HF.out]; rfl, HBD.out.trans (HB1.out.mono HB.out.size)⟩
          · have HF := Lib.hid (eqL_more hall.out HUK.out HVK.out HE.out.symm)
            go_wp2_with fail
            go_region_held3 (fun W => (W.cell? ⟨w.heap.size, 4, none⟩ = some (.slice (some ⟨g, o, none⟩) l1 d) ∧ W.cell? ⟨w.heap.size + 1, 4, none⟩ = some (.slice (some ⟨g2, o2, none⟩) l1 d') ∧ W.cell? ⟨g, o + j * 5, none⟩ = some (.int .i64 uk) ∧ W.cell? ⟨g, o + j * 5 + 1, none⟩ = some (.string un) ∧ W.cell? ⟨g, o + j * 5 + 2, none⟩ = some (.string uo) ∧ W.cell? ⟨g, o + j * 5 + 3, none⟩ = some (.slice a1 ul c1) ∧ W.cell? ⟨g, o + j * 5 + 4, none⟩ = some (.slice b1 up d1) ∧ W.cell? ⟨g2, o2 + j * 5, none⟩ = some (.int .i64 vk) ∧ W.cell? ⟨g2, o2 + j * 5 + 1, none⟩ = some (.string vn) ∧ W.cell? ⟨g2, o2 + j * 5 + 2, none⟩ = some (.string vo) ∧ W.cell? ⟨g2, o2 + j * 5 + 3, none⟩ = some (.slice a2 vl c2) ∧ W.cell? ⟨g2, o2 + j * 5 + 4, none⟩ = some (.slice b2 vp d2) ∧ Below w1.heap.size wr W))
              (first | exact HS.out _ HD0.out | exact HS.out _ HB1.out)
              (first | (go_at_call 11; have HX := Lib.hid (s_end (by assumption)); refine Calls.mono (CI.out _ (WA.out _ (HX.out.mono HB.out.size)).1 (WA.out _ (HX.out.mono HB.out.size)).2) ?_; rintro e w2 ⟨rfl, hb⟩; have HB1 := Lib.hid (HX.out.trans (hb.mono (Nat.le_trans HBC.out.size HX.out.size))); clear hb))
            go_wp2_with fail
            go_roundw
            case rel => exact ⟨j + 1, by omega, by go_num, HF, HBC.out.trans HB1.out⟩
            case measure => simp [intOf]; omega
        · have hjz : ¬ (j : Int) < (l1 : Int) := by omega
          have HF := Lib.hid (show res = true by
            rw [HRL.out, HEL.out, sameL_eq]
            exact eqL_yes (HL1.out.symm.trans HL2.out) fun i u v hi => hall.out i u v (by have := HL1.out; omega))
          go_wp2_with fail
          go_ret
          exact ⟨by rw [HF.out]; rfl, HBD.out⟩
theorem refSame_all : ∀ (N : Nat) (f : Flt), sz f ≤ N → RefSameOk f
  | 0, f, h => by have := sz_pos f; omega
  | N + 1, f, h => refSame_ok f fun q hq => refSame_all N q (by
      cases f
      simp only [Flt.parts] at hq
      have := sz_mem hq
      rw [sz] at h
      omega)
end Go.Proofs.YtjffnjiggcfhcaaGreatDoor.Fl
namespace Go.Proofs.YtjffnjiggcfhcaaGreatDoor.Fl
set_option linter.unusedVariables false

theorem attEq_refl (u : Att) : attEq u u = true := by simp [attEq]
theorem attsEq_refl : ∀ l : List Att, attsEq l l = true
  | [] => rfl
  | u :: r => by
    show (attEq u u && attsEq r r) = true
    rw [attEq_refl, attsEq_refl r]
    rfl
mutual
theorem sameB_refl : ∀ f : Flt, sameB f f = true
  | .mk k n o vs ps => by
    rw [sameB, show (Flt.mk k n o vs ps).kind = k from rfl, show (Flt.mk k n o vs ps).name = n from rfl, show (Flt.mk k n o vs ps).op = o from rfl, show (Flt.mk k n o vs ps).vals = vs from rfl, show (Flt.mk k n o vs ps).parts = ps from rfl, attsEq_refl, sameL_refl ps]
    simp
theorem sameL_refl : ∀ l : List Flt, sameL l l = true
  | [] => by rw [sameL]
  | p :: r => by rw [sameL, sameB_refl p, sameL_refl r]; rfl
end
end Go.Proofs.YtjffnjiggcfhcaaGreatDoor.Fl
