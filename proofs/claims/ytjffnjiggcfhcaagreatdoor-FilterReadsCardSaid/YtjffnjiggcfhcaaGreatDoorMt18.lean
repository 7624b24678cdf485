/-
  The document's example, at the head of the layer's statements: it holds.
-/
import Derived.Test.YtjffnjiggcfhcaaGreatDoorMt15
import Derived.Test.YtjffnjiggcfhcaaGreatDoorMt17
import Derived.Test.YtjffnjiggcfhcaaGreatDoorMt14
/-
  Contracts of joinedText and text of package filter: a filter's text, to any depth. Memory that was there is left as it was.
-/
namespace Go.Proofs.YtjffnjiggcfhcaaGreatDoor.Fl
open Go.RowKit Go.Proofs.YtjffnjiggcfhcaaGreatDoor.Tk
set_option linter.unusedVariables false
set_option linter.unusedSimpArgs false

def JtR (kk : Int) (ps : List Flt) (w w1 : World) (vl vi : Value) (wr : World) : Prop :=
  ∃ j : Nat, j ≤ ps.length ∧ vi = .int .i64 j ∧ wr.ownsRow w1.heap.size 9 1 vl j (((ps.take j).map showP).map bs) ∧ Below w1.heap.size w1 wr
set_option maxHeartbeats 4000000 in
set_option maxRecDepth 100000 in
theorem joinedText_any (k : Int) (hk : k = 1 ∨ k = 2) (sn so : ByteArray) (a : Option Addr) (n c : Nat) (p0 : Flt) (ps : List Flt) (ih : ∀ q ∈ p0 :: ps, TextOk q) (b : Option Addr) (d : Nat) (word : ByteArray) (wd : List UInt8) (hwd : word.data.toList = 32 :: (wd ++ [32])) (hwl : wd.length ≤ 3)
    (w : World) (hT : LaidT w) (hP : PartsAt w (Old w.heap.size) b 0 (p0 :: ps)) (hfp : ∀ q ∈ p0 :: ps, fine q = true) (h5 : szL (p0 :: ps) ≤ 99) :
    Calls Tryz.prog 30 #[.agg #[.int .i64 k, .string sn, .string so, .slice a n c, .slice b (p0 :: ps).length d], .string word] w fun e w' => e = .returned (.string ⟨(showP p0 ++ showR wd ps).toArray⟩) ∧ Below w.heap.size w w' := by
  have HT := Lib.hid hT
  have HP := Lib.hid hP
  have IH := Lib.hid ih
  have HFP := Lib.hid hfp
  have HRG := Lib.hid (show ∀ q ∈ p0 :: ps, rng q from fun q hq => rng_mem (PartsAt.rng _ hP) q hq)
  have HS5 := Lib.hid (show ∀ q ∈ p0 :: ps, sz q ≤ 99 from fun q hq => Nat.le_trans (sz_mem hq) h5)
  obtain ⟨res, hres⟩ : ∃ x : ByteArray, x = ⟨(showP p0 ++ showR wd ps).toArray⟩ := ⟨_, rfl⟩
  rw [← hres]
  obtain ⟨qs, hqs⟩ : ∃ l, l = p0 :: ps := ⟨_, rfl⟩
  have HJ := Lib.hid (show Lib.join (qs.map showP) word.data.toList = showP p0 ++ showR wd ps by rw [hqs, hwd]; exact join_parts wd p0 ps)
  have HJL := Lib.hid (show (showP p0 ++ showR wd ps).length ≤ 140737488355328 by
    have h1 := show_len (sz p0) p0 (Nat.le_refl _) (hfp p0 (List.mem_cons_self ..)) (HRG.out p0 (List.mem_cons_self ..))
    have h2 := showP_le p0
    have h3 : ∀ m : List Flt, (∀ q ∈ m, q ∈ p0 :: ps) → (showR wd m).length ≤ 5010 * szL m := by
      intro m
      induction m with
      | nil => intro _; simp [showR, szL]
      | cons q r ihr =>
        intro hm
        have g1 := show_len (sz q) q (Nat.le_refl _) (hfp q (hm q (List.mem_cons_self ..))) (HRG.out q (hm q (List.mem_cons_self ..)))
        have g2 := ihr fun x hx => hm x (List.mem_cons_of_mem _ hx)
        have g3 := showP_le q
        simp only [showR, szL, List.length_cons, List.length_append]
        omega
    have h4 := h3 ps fun q hq => List.mem_cons_of_mem _ hq
    simp only [szL] at h5
    rw [List.length_append]
    omega)
  have HRES := Lib.hid hres
  rw [← hqs] at HP IH HFP HRG HS5 h5 ⊢
  have HL0 := Lib.hid (show 0 < qs.length by rw [hqs]; simp)
  have HLM := Lib.hid (show qs.length ≤ 99 from Nat.le_trans (by
    have : ∀ m : List Flt, m.length ≤ szL m := by
      intro m
      induction m with
      | nil => simp [szL]
      | cons q r ihr => have := sz_pos q; simp only [szL, List.length_cons]; omega
    exact this qs) h5)
  obtain ⟨l, hl⟩ : ∃ n, n = qs.length := ⟨_, rfl⟩
  have HL := Lib.hid hl
  have hl99 : l ≤ 99 := by rw [hl]; exact HLM.out
  have HKK := Lib.hid (show ¬ k = 3 by omega)
  rw [← hl]
  obtain ⟨i0, hi, hz0, hz1, hz2⟩ := info_cut' infoStr
  clear hT hP ih hfp hres hqs hl h5 hwd hwl hk
  obtain ⟨w1, hw1⟩ : ∃ v, v = w.alloc (.cells #[.int .i64 k, .string sn, .string so, .slice a n c, .slice b l d] 25) := ⟨_, rfl⟩
  have X1 := Lib.hid (show Box w1 w.heap.size (.int .i64 k) (.string sn) (.string so) (.slice a n c) (.slice b l d) by rw [hw1]; exact Box.new ..)
  have HB := Lib.hid (show Below w.heap.size w w1 by rw [hw1]; exact (Below.refl _ _).alloc (Nat.le_refl _) _)
  have HW := Lib.hid hw1
  clear hw1
  go_enter Tryz.func30, Tryz.ntmps30
  go_wp2_with fail
  rw [← HW.out]
  go_loopw [5, 11] (fun vl vi wr => JtR k qs w w1 vl vi wr) (fun _ vi _ => l - (intOf vi).toNat)
  case atStart => exact ⟨0, Nat.zero_le _, rfl, World.ownsRow_nil _ _ _ _, Below.refl _ _⟩
  case round =>
    obtain ⟨j, hk, rfl, hO, hBB⟩ := hrel
    have HK := Lib.hid hk
    have HO := Lib.hid hO
    have HBB := Lib.hid hBB
    have HBW := Lib.hid (HB.out.trans (hBB.mono HB.out.size))
    have X3 := Lib.hid (X1.out.later hBB)
    obtain ⟨p0', p1, p2, p3, p4⟩ := X3.out
    clear hk hO hBB
    by_cases hlt : j < l
    · have hlz : (j : Int) < (l : Int) := by omega
      have hku : j < qs.length := by rw [← HL.out]; exact hlt
      obtain ⟨g, o', a1, c1, b1, d1, hg, hgl, h5, hf⟩ := (HP.out.later HBW.out).get j hku
      obtain ⟨U, hU⟩ : ∃ V, V = qs[j] := ⟨_, rfl⟩
      rw [← hU] at h5 hf
      have HUK := Lib.hid (show qs[j]? = some U by rw [hU]; exact List.getElem?_eq_getElem hku)
      have CI := Lib.hid (fun W h1 h2 h3 => partText_any k U (IH.out U (List.mem_of_getElem? HUK.out)) a1 c1 b1 d1 W h1 h2 (HFP.out U (List.mem_of_getElem? HUK.out)) h3)
      have HFU := Lib.hid hf
      have HGL := Lib.hid (show g < wr.heap.size from Nat.lt_of_lt_of_le hgl HBW.out.size)
      have hgw : g < wr.heap.size := HGL.out
      have hbw : w.heap.size < wr.heap.size := X3.out.lt
      subst hg
      obtain ⟨e0, e1, e2, e3, e4⟩ := h5
      rw [Nat.zero_add] at e0 e1 e2 e3 e4
      obtain ⟨un, hun, _⟩ := bs_bytes U.name
      obtain ⟨uo, huo, _⟩ := bs_bytes U.op
      rw [hun] at e1 CI
      rw [huo] at e2 CI
      obtain ⟨uk, huk⟩ : ∃ x, x = U.kind := ⟨_, rfl⟩
      obtain ⟨uv, huv⟩ : ∃ x, x = U.vals.length := ⟨_, rfl⟩
      obtain ⟨up, hup⟩ : ∃ x, x = U.parts.length := ⟨_, rfl⟩
      rw [← huk] at e0 CI
      rw [← huv] at e3 CI
      rw [← hup] at e4 CI
      have HUKD := Lib.hid huk
      have E0 := Lib.hid e0
      clear hU hf hgl hun huo huk huv hup
      have WA := Lib.hid (show ∀ W, Below w.heap.size wr W → FltAt W (Old W.heap.size) U a1 b1 from fun W hW => (HFU.out.later hW).wide (Nat.le_trans HBW.out.size hW.size))
      have HU5 := Lib.hid (show sz U ≤ 100 by have := HS5.out U (List.mem_of_getElem? HUK.out); omega)
      obtain ⟨st, hst⟩ : ∃ x : ByteArray, x = ⟨(partS k U).toArray⟩ := ⟨_, rfl⟩
      rw [← hst] at CI
      obtain ⟨rs, hrs⟩ : ∃ x, x = ((qs.take j).map showP).map bs := ⟨_, rfl⟩
      have HTK := Lib.hid (show ((qs.take (j + 1)).map showP).map bs = rs ++ [.string st] by rw [take_map showP HUK.out, hst, hrs, partS, if_neg HKK.out]; rfl)
      rw [← hrs] at HO
      clear hst hrs
      have HBA := Lib.hid (show Below w1.heap.size w1 (wr.alloc (.cells #[.int .i64 uk, .string un, .string uo, .slice a1 uv c1, .slice b1 up d1] 25)) from HBB.out.alloc HBB.out.size _)
      have HBA2 := Lib.hid (show Below w.heap.size w (wr.alloc (.cells #[.int .i64 uk, .string un, .string uo, .slice a1 uv c1, .slice b1 up d1] 25)) from HB.out.trans (HBA.out.mono HB.out.size))
      have HOA := Lib.hid (show (wr.alloc (.cells #[.int .i64 uk, .string un, .string uo, .slice a1 uv c1, .slice b1 up d1] 25)).ownsRow w1.heap.size 9 1 _ j rs from own_later HO.out ((Below.refl _ _).alloc (Nat.le_refl _) _))
      go_wp2_with fail
      refine Calls.mono (CI.out _ (HT.out.later HBA2.out) (WA.out _ ((Below.refl _ _).alloc HBW.out.size _)) HU5.out) ?_
      rintro e w3 ⟨rfl, hb⟩
      have HB3 := Lib.hid (HBA.out.trans (hb.mono HBA.out.size))
      have HO3 := Lib.hid (own_later HOA.out hb)
      have HB4 := Lib.hid (show Below w1.heap.size w1 (w3.alloc (.cells #[.string st] 9)) from HB3.out.alloc HB3.out.size _)
      have HO4 := Lib.hid (show (w3.alloc (.cells #[.string st] 9)).ownsRow w1.heap.size 9 1 _ j rs from own_later HO3.out ((Below.refl _ _).alloc (Nat.le_refl _) _))
      have NW := Lib.hid (cell_one_new w3 (.string st) 9)
      clear hb
      go_wp2_with (first | (at_builtin; refine wpList_append_own_at _ rfl _ _ 80 rfl w1.heap.size 9 i0 (.string ⟨#[]⟩) 1 16 Tryz.underlying80 hi hz0 hz1 hz2 rfl (by decide) _ _ _ rfl HO4.out ⟨w3.heap.size, 0, none⟩ 1 1 [.string st] rfl rfl NW.out (by intro u hu; simp at hu; subst hu; rfl) (by unfold maxLen; omega) (by omega) HB4.out.size ?_))
      intro v1 w5 hown hgrow _ _
      have HB5 := Lib.hid (own_below HB4.out HO4.out hgrow)
      have HO5 := Lib.hid (show w5.ownsRow w1.heap.size 9 1 v1 (j + 1) (((qs.take (j + 1)).map showP).map bs) by rw [HTK.out]; exact hown)
      clear hgrow hown
      go_wp2
      go_roundw
      case rel => first | exact ⟨j + 1, by have := HL.out; omega, by go_num, HO5.out, HB5.out⟩ | ((repeat apply Exists.intro); exact ⟨⟨j + 1, by have := HL.out; omega, by go_num, HO5.out, HB5.out⟩, rfl⟩)
      case measure => simp [intOf]; omega
    · have hlz : ¬ (j : Int) < (l : Int) := by omega
      have HO2 := HO.out
      rw [show j = qs.length by have := HL.out; have := HK.out; omega, List.take_length] at HO2
      have CJ := Lib.hid (join_any (qs.map showP) word _ _ _ wr HO2 HL0.out (by have := HLM.out; omega) (by rw [HJ.out]; exact HJL.out))
      rw [HJ.out, ← HRES.out] at CJ
      clear HO2
      go_wp2_with fail
      refine Calls.mono CJ.out ?_
      rintro e w3 ⟨rfl, hb⟩
      have HB3 := Lib.hid (HBW.out.trans (hb.mono HBW.out.size))
      clear hb
      go_wp2_with fail
      go_ret
      exact ⟨rfl, HB3.out⟩
set_option maxHeartbeats 4000000 in
set_option maxRecDepth 100000 in
theorem text1 (sn so : ByteArray) (vs : List Att) (ps : List Flt) (a : Option Addr) (c : Nat) (b : Option Addr) (d : Nat) (w : World) (hT : LaidT w) (hP : PartsAt w (Old w.heap.size) b 0 ps) (ih : ∀ q ∈ ps, TextOk q) (hfp : ∀ q ∈ ps, fine q = true) (h5 : szL ps ≤ 99) (h0 : 0 < ps.length) (hv0 : vs = []) : Calls Tryz.prog 20 #[.agg #[.int .i64 1, .string sn, .string so, .slice a vs.length c, .slice b ps.length d]] w fun e w' => e = .returned (.string ⟨(showF (.mk 1 sn.data.toList so.data.toList vs ps)).toArray⟩) ∧ Below w.heap.size w w' := by
  subst hv0
  obtain ⟨p0, r, hpr⟩ : ∃ p r, ps = p :: r := by
    cases h : ps with
    | nil => rw [h] at h0; simp at h0
    | cons p r => exact ⟨p, r, rfl⟩
  subst hpr
  have HE := Lib.hid (show showF (.mk 1 sn.data.toList so.data.toList [] (p0 :: r)) = showP p0 ++ showR wAnd r by simp [showF, andOr])
  have CJ := Lib.hid (fun W h1 h2 => joinedText_any 1 (by omega) sn so a 0 c p0 r ih b d ⟨#[32, 97, 110, 100, 32]⟩ wAnd rfl (by decide) W h1 h2 hfp h5)
  rw [HE.out]
  obtain ⟨res, hres⟩ : ∃ x : ByteArray, x = ⟨(showP p0 ++ showR wAnd r).toArray⟩ := ⟨_, rfl⟩
  rw [← hres] at CJ ⊢
  have HT := Lib.hid hT
  have HP := Lib.hid hP
  obtain ⟨l, hl⟩ : ∃ n, n = (p0 :: r).length := ⟨_, rfl⟩
  simp only [List.length_nil]
  rw [← hl] at CJ ⊢
  clear hres hT hP hl ih hfp h5 h0
  obtain ⟨w1, hw1⟩ : ∃ v, v = w.alloc (.cells #[.int .i64 1, .string sn, .string so, .slice a 0 c, .slice b l d] 25) := ⟨_, rfl⟩
  have X1 := Lib.hid (show Box w1 w.heap.size (.int .i64 1) (.string sn) (.string so) (.slice a 0 c) (.slice b l d) by rw [hw1]; exact Box.new ..)
  have HB := Lib.hid (show Below w.heap.size w w1 by rw [hw1]; exact (Below.refl _ _).alloc (Nat.le_refl _) _)
  have HW := Lib.hid hw1
  clear hw1
  go_enter Tryz.func20, Tryz.ntmps20
  go_wp2_with fail
  rw [← HW.out]
  refine Calls.mono (CJ.out _ (HT.out.later HB.out) (HP.out.fit HB.out)) ?_
  rintro e w2 ⟨rfl, hb⟩
  have HB2 := Lib.hid (HB.out.trans (hb.mono HB.out.size))
  clear hb
  go_wp2_with fail
  go_ret
  exact ⟨rfl, HB2.out⟩
set_option maxHeartbeats 4000000 in
set_option maxRecDepth 100000 in
theorem text2 (sn so : ByteArray) (vs : List Att) (ps : List Flt) (a : Option Addr) (c : Nat) (b : Option Addr) (d : Nat) (w : World) (hT : LaidT w) (hP : PartsAt w (Old w.heap.size) b 0 ps) (ih : ∀ q ∈ ps, TextOk q) (hfp : ∀ q ∈ ps, fine q = true) (h5 : szL ps ≤ 99) (h0 : 0 < ps.length) (hv0 : vs = []) : Calls Tryz.prog 20 #[.agg #[.int .i64 2, .string sn, .string so, .slice a vs.length c, .slice b ps.length d]] w fun e w' => e = .returned (.string ⟨(showF (.mk 2 sn.data.toList so.data.toList vs ps)).toArray⟩) ∧ Below w.heap.size w w' := by
  subst hv0
  obtain ⟨p0, r, hpr⟩ : ∃ p r, ps = p :: r := by
    cases h : ps with
    | nil => rw [h] at h0; simp at h0
    | cons p r => exact ⟨p, r, rfl⟩
  subst hpr
  have HE := Lib.hid (show showF (.mk 2 sn.data.toList so.data.toList [] (p0 :: r)) = showP p0 ++ showR wOr r by simp [showF, andOr])
  have CJ := Lib.hid (fun W h1 h2 => joinedText_any 2 (by omega) sn so a 0 c p0 r ih b d ⟨#[32, 111, 114, 32]⟩ wOr rfl (by decide) W h1 h2 hfp h5)
  rw [HE.out]
  obtain ⟨res, hres⟩ : ∃ x : ByteArray, x = ⟨(showP p0 ++ showR wOr r).toArray⟩ := ⟨_, rfl⟩
  rw [← hres] at CJ ⊢
  have HT := Lib.hid hT
  have HP := Lib.hid hP
  obtain ⟨l, hl⟩ : ∃ n, n = (p0 :: r).length := ⟨_, rfl⟩
  simp only [List.length_nil]
  rw [← hl] at CJ ⊢
  clear hres hT hP hl ih hfp h5 h0
  obtain ⟨w1, hw1⟩ : ∃ v, v = w.alloc (.cells #[.int .i64 2, .string sn, .string so, .slice a 0 c, .slice b l d] 25) := ⟨_, rfl⟩
  have X1 := Lib.hid (show Box w1 w.heap.size (.int .i64 2) (.string sn) (.string so) (.slice a 0 c) (.slice b l d) by rw [hw1]; exact Box.new ..)
  have HB := Lib.hid (show Below w.heap.size w w1 by rw [hw1]; exact (Below.refl _ _).alloc (Nat.le_refl _) _)
  have HW := Lib.hid hw1
  clear hw1
  go_enter Tryz.func20, Tryz.ntmps20
  go_wp2_with fail
  rw [← HW.out]
  refine Calls.mono (CJ.out _ (HT.out.later HB.out) (HP.out.fit HB.out)) ?_
  rintro e w2 ⟨rfl, hb⟩
  have HB2 := Lib.hid (HB.out.trans (hb.mono HB.out.size))
  clear hb
  go_wp2_with fail
  go_ret
  exact ⟨rfl, HB2.out⟩
theorem text7 (sn so : ByteArray) (vs : List Att) (ps : List Flt) (a : Option Addr) (c : Nat) (b : Option Addr) (d : Nat) (w : World) (hv0 : vs = []) (hp0 : ps = []) : Calls Tryz.prog 20 #[.agg #[.int .i64 7, .string sn, .string so, .slice a vs.length c, .slice b ps.length d]] w fun e w' => e = .returned (.string ⟨(showF (.mk 7 sn.data.toList so.data.toList vs ps)).toArray⟩) ∧ Below w.heap.size w w' := by
  subst hv0
  subst hp0
  have HE := Lib.hid (show showF (.mk 7 sn.data.toList so.data.toList [] []) = wTrue by simp [showF])
  rw [HE.out]
  obtain ⟨x0, hx0⟩ : ∃ x : ByteArray, x = ⟨wTrue.toArray⟩ := ⟨_, rfl⟩
  have HX := Lib.hid (show (⟨#[116, 114, 117, 101]⟩ : ByteArray) = x0 by rw [hx0]; rfl)
  rw [← hx0]
  clear hx0
  go_enter Tryz.func20, Tryz.ntmps20
  go_wp2_with fail
  go_ret
  exact ⟨by rw [← HX.out]; rfl, (Below.refl _ _).alloc (Nat.le_refl _) _⟩
set_option maxHeartbeats 4000000 in
set_option maxRecDepth 100000 in
theorem text3 (sn so : ByteArray) (vs : List Att) (ps : List Flt) (a : Option Addr) (c : Nat) (b : Option Addr) (d : Nat) (w : World) (hT : LaidT w) (hP : PartsAt w (Old w.heap.size) b 0 ps) (ih : ∀ q ∈ ps, TextOk q) (hfp : ∀ q ∈ ps, fine q = true) (h5 : szL ps ≤ 99) (h0 : ps.length = 1) (hv0 : vs = []) : Calls Tryz.prog 20 #[.agg #[.int .i64 3, .string sn, .string so, .slice a vs.length c, .slice b ps.length d]] w fun e w' => e = .returned (.string ⟨(showF (.mk 3 sn.data.toList so.data.toList vs ps)).toArray⟩) ∧ Below w.heap.size w w' := by
  subst hv0
  obtain ⟨p0, hpr⟩ : ∃ p, ps = [p] := by
    match ps, h0 with
    | [p], _ => exact ⟨p, rfl⟩
  subst hpr
  have hrg := PartsAt.rng _ hP
  rw [rngL] at hrg
  have hz0 : sz p0 ≤ 100 := by simp only [szL] at h5; omega
  have hst5 := partS_size 3 (hfp p0 (List.mem_cons_self ..)) hrg.1 hz0
  have CP := Lib.hid (fun a' c' b' d' W h1 h2 => partText_any 3 p0 (ih p0 (List.mem_cons_self ..)) a' c' b' d' W h1 h2 (hfp p0 (List.mem_cons_self ..)) hz0)
  obtain ⟨st, hst⟩ : ∃ x : ByteArray, x = ⟨(partS 3 p0).toArray⟩ := ⟨_, rfl⟩
  have hsz : st.size ≤ 501002 := by rw [hst, bytes_size]; exact hst5
  rw [← hst] at CP
  obtain ⟨res, hres⟩ : ∃ x : ByteArray, x = ⟨(showF (.mk 3 sn.data.toList so.data.toList [] [p0])).toArray⟩ := ⟨_, rfl⟩
  have HR := Lib.hid (show res.data.toList = [110, 111, 116, 32] ++ st.data.toList by rw [hres, hst]; simp [showF, partS, wNot])
  rw [← hres]
  obtain ⟨g, o', a1, c1, b1, d1, hg, hgl, h5', hf⟩ := hP.get 0 (by simp)
  simp only [List.getElem_cons_zero] at h5' hf
  obtain ⟨e0, e1, e2, e3, e4⟩ := h5'
  simp only [Nat.zero_mul, Nat.add_zero] at e0 e1 e2 e3 e4
  have CQ := Lib.hid (fun W h1 h2 => CP.out a1 c1 b1 d1 W h1 h2)
  obtain ⟨un, hun, _⟩ := bs_bytes p0.name
  obtain ⟨uo, huo, _⟩ := bs_bytes p0.op
  rw [hun] at e1 CQ
  rw [huo] at e2 CQ
  obtain ⟨uk, huk⟩ : ∃ x, x = p0.kind := ⟨_, rfl⟩
  obtain ⟨uv, huv⟩ : ∃ x, x = p0.vals.length := ⟨_, rfl⟩
  obtain ⟨up, hup⟩ : ∃ x, x = p0.parts.length := ⟨_, rfl⟩
  rw [← huk] at e0 CQ
  rw [← huv] at e3 CQ
  rw [← hup] at e4 CQ
  have HE := Lib.hid (And.intro e0 (And.intro e1 (And.intro e2 (And.intro e3 e4))))
  have HFU := Lib.hid hf
  have HT := Lib.hid hT
  have HGL := Lib.hid hgl
  subst hg
  simp only [List.length_nil, List.length_cons, Nat.zero_add]
  clear hres hT hP ih hfp h5 h0 hrg hst hst5 hun huo huk huv hup e0 e1 e2 e3 e4 hf hgl CP
  obtain ⟨w1, hw1⟩ : ∃ v, v = w.alloc (.cells #[.int .i64 3, .string sn, .string so, .slice a 0 c, .slice (some ⟨g, o', none⟩) 1 d] 25) := ⟨_, rfl⟩
  have X1 := Lib.hid (show Box w1 w.heap.size (.int .i64 3) (.string sn) (.string so) (.slice a 0 c) (.slice (some ⟨g, o', none⟩) 1 d) by rw [hw1]; exact Box.new ..)
  have HB := Lib.hid (show Below w.heap.size w w1 by rw [hw1]; exact (Below.refl _ _).alloc (Nat.le_refl _) _)
  have HW := Lib.hid hw1
  clear hw1
  have HS := Lib.hid (show ∀ W, Below w1.heap.size w1 W → (fun W => W.cell? ⟨w.heap.size, 0, none⟩ = some (.int .i64 3) ∧ W.cell? ⟨w.heap.size, 1, none⟩ = some (.string sn) ∧ W.cell? ⟨w.heap.size, 2, none⟩ = some (.string so) ∧ W.cell? ⟨w.heap.size, 3, none⟩ = some (.slice a 0 c) ∧ W.cell? ⟨w.heap.size, 4, none⟩ = some (.slice (some ⟨g, o', none⟩) 1 d) ∧ W.cell? ⟨g, o', none⟩ = some (.int .i64 uk) ∧ W.cell? ⟨g, o' + 1, none⟩ = some (.string un) ∧ W.cell? ⟨g, o' + 2, none⟩ = some (.string uo) ∧ W.cell? ⟨g, o' + 3, none⟩ = some (.slice a1 uv c1) ∧ W.cell? ⟨g, o' + 4, none⟩ = some (.slice b1 up d1) ∧ Below w1.heap.size w1 W) W from fun W hW =>
    ⟨(hW.cell (p := ⟨w.heap.size, 0, none⟩) X1.out.lt).trans X1.out.1, (hW.cell (p := ⟨w.heap.size, 1, none⟩) X1.out.lt).trans X1.out.2.1, (hW.cell (p := ⟨w.heap.size, 2, none⟩) X1.out.lt).trans X1.out.2.2.1, (hW.cell (p := ⟨w.heap.size, 3, none⟩) X1.out.lt).trans X1.out.2.2.2.1, (hW.cell (p := ⟨w.heap.size, 4, none⟩) X1.out.lt).trans X1.out.2.2.2.2, ((HB.out.trans (hW.mono HB.out.size)).cell (p := ⟨g, o', none⟩) HGL.out).trans HE.out.1, ((HB.out.trans (hW.mono HB.out.size)).cell (p := ⟨g, o' + 1, none⟩) HGL.out).trans HE.out.2.1, ((HB.out.trans (hW.mono HB.out.size)).cell (p := ⟨g, o' + 2, none⟩) HGL.out).trans HE.out.2.2.1, ((HB.out.trans (hW.mono HB.out.size)).cell (p := ⟨g, o' + 3, none⟩) HGL.out).trans HE.out.2.2.2.1, ((HB.out.trans (hW.mono HB.out.size)).cell (p := ⟨g, o' + 4, none⟩) HGL.out).trans HE.out.2.2.2.2, hW⟩)
  have HD0 := Lib.hid (show Below w1.heap.size w1 w1.drew from (Below.refl _ _).drew)
  have z1 : ¬ 9223372036854775807 < 4 + st.size := by omega
  have HFN := Lib.hid (show ∀ y : ByteArray, y.data.toList = [110, 111, 116, 32] ++ st.data.toList → y = res from fun y hy => by rw [bs_of hy, bs_of HR.out])
  go_enter Tryz.func20, Tryz.ntmps20
  go_wp2_with fail
  rw [← HW.out]
  go_region_held3 (fun W => W.cell? ⟨w.heap.size, 0, none⟩ = some (.int .i64 3) ∧ W.cell? ⟨w.heap.size, 1, none⟩ = some (.string sn) ∧ W.cell? ⟨w.heap.size, 2, none⟩ = some (.string so) ∧ W.cell? ⟨w.heap.size, 3, none⟩ = some (.slice a 0 c) ∧ W.cell? ⟨w.heap.size, 4, none⟩ = some (.slice (some ⟨g, o', none⟩) 1 d) ∧ W.cell? ⟨g, o', none⟩ = some (.int .i64 uk) ∧ W.cell? ⟨g, o' + 1, none⟩ = some (.string un) ∧ W.cell? ⟨g, o' + 2, none⟩ = some (.string uo) ∧ W.cell? ⟨g, o' + 3, none⟩ = some (.slice a1 uv c1) ∧ W.cell? ⟨g, o' + 4, none⟩ = some (.slice b1 up d1) ∧ Below w1.heap.size w1 W)
    (first | exact HS.out _ HD0.out | exact HS.out _ HB1.out)
    (first | (go_at_call 31; have HX := Lib.hid ((And.right <| And.right <| And.right <| And.right <| And.right <| And.right <| And.right <| And.right <| And.right <| And.right <| (by assumption))); refine Calls.mono (CQ.out _ (HT.out.later (HB.out.trans (HX.out.mono HB.out.size))) (HFU.out.fit (HB.out.trans (HX.out.mono HB.out.size)))) ?_; rintro e w2 ⟨rfl, hb⟩; have HB1 := Lib.hid (HX.out.trans (hb.mono HX.out.size)); clear hb))
  go_wp2_with fail
  go_ret
  exact ⟨congrArg (fun y => Ending.returned (.string y)) (HFN.out _ (by simp)), HB.out.trans (HB1.out.mono HB.out.size)⟩
set_option maxHeartbeats 4000000 in
set_option maxRecDepth 100000 in
theorem text4 (sn so : ByteArray) (vs : List Att) (ps : List Flt) (a : Option Addr) (c : Nat) (b : Option Addr) (d : Nat) (w : World) (hT : LaidT w) (hA : AttsAt w (Old w.heap.size) a vs) (hn20 : sn.size ≤ 20) (ho2 : so.size ≤ 2) (h0 : vs.length = 1) (hvb : ∀ v ∈ vs, v.str.length ≤ 200) (hp0 : ps = []) : Calls Tryz.prog 20 #[.agg #[.int .i64 4, .string sn, .string so, .slice a vs.length c, .slice b ps.length d]] w fun e w' => e = .returned (.string ⟨(showF (.mk 4 sn.data.toList so.data.toList vs ps)).toArray⟩) ∧ Below w.heap.size w w' := by
  subst hp0
  obtain ⟨v0, hpr⟩ : ∃ p, vs = [p] := by
    match vs, h0 with
    | [p], _ => exact ⟨p, rfl⟩
  subst hpr
  have hv2 := hvb v0 (List.mem_cons_self ..)
  have hrv := (hA.2.1 v0 (List.mem_cons_self ..)).2.2
  obtain ⟨st, hst⟩ : ∃ x : ByteArray, x = ⟨(showV v0).toArray⟩ := ⟨_, rfl⟩
  have hsz : st.size ≤ 202 := by
    rw [hst, bytes_size]
    unfold showV
    have := Lib.itoa_length_le v0.num hrv.1 hrv.2
    split
    · simp; omega
    · omega
  obtain ⟨res, hres⟩ : ∃ x : ByteArray, x = ⟨(showF (.mk 4 sn.data.toList so.data.toList [v0] [])).toArray⟩ := ⟨_, rfl⟩
  have HR := Lib.hid (show res.data.toList = sn.data.toList ++ 32 :: (so.data.toList ++ 32 :: st.data.toList) by rw [hres, hst]; simp [showF, showOne, sPre])
  rw [← hres]
  obtain ⟨g, o', hg, hgl, hc⟩ := hA.2.2 (by simp)
  obtain ⟨e0, e1, e2, e3⟩ := hc 0 (by simp)
  simp only [List.getElem_cons_zero, Nat.zero_mul, Nat.add_zero] at e0 e1 e2 e3
  obtain ⟨s1, q1, _⟩ := bs_bytes v0.name
  obtain ⟨t1, q2, f2⟩ := bs_bytes v0.str
  rw [q1] at e0
  rw [q2] at e3
  have CV := Lib.hid (fun W h => valueText_any s1 v0 t1 f2 hv2 hrv W h)
  rw [← hst] at CV
  obtain ⟨x1, hx1⟩ : ∃ x, x = v0.text := ⟨_, rfl⟩
  obtain ⟨y1, hy1⟩ : ∃ x, x = v0.num := ⟨_, rfl⟩
  rw [← hx1] at e1 CV
  rw [← hy1] at e2 CV
  have HE := Lib.hid (And.intro e0 (And.intro e1 (And.intro e2 e3)))
  have HT := Lib.hid hT
  have HGL := Lib.hid hgl
  subst hg
  simp only [List.length_nil, List.length_cons, Nat.zero_add]
  clear hres hT hA h0 hvb hv2 hrv hst hc e0 e1 e2 e3 q1 q2 f2 hx1 hy1 hgl
  obtain ⟨w1, hw1⟩ : ∃ v, v = w.alloc (.cells #[.int .i64 4, .string sn, .string so, .slice (some ⟨g, o', none⟩) 1 c, .slice b 0 d] 25) := ⟨_, rfl⟩
  have X1 := Lib.hid (show Box w1 w.heap.size (.int .i64 4) (.string sn) (.string so) (.slice (some ⟨g, o', none⟩) 1 c) (.slice b 0 d) by rw [hw1]; exact Box.new ..)
  have HB := Lib.hid (show Below w.heap.size w w1 by rw [hw1]; exact (Below.refl _ _).alloc (Nat.le_refl _) _)
  have HW := Lib.hid hw1
  clear hw1
  have HS := Lib.hid (show ∀ W, Below w1.heap.size w1 W → (fun W => W.cell? ⟨w.heap.size, 0, none⟩ = some (.int .i64 4) ∧ W.cell? ⟨w.heap.size, 1, none⟩ = some (.string sn) ∧ W.cell? ⟨w.heap.size, 2, none⟩ = some (.string so) ∧ W.cell? ⟨w.heap.size, 3, none⟩ = some (.slice (some ⟨g, o', none⟩) 1 c) ∧ W.cell? ⟨w.heap.size, 4, none⟩ = some (.slice b 0 d) ∧ W.cell? ⟨g, o', none⟩ = some (.string s1) ∧ W.cell? ⟨g, o' + 1, none⟩ = some (.bool x1) ∧ W.cell? ⟨g, o' + 2, none⟩ = some (.int .i64 y1) ∧ W.cell? ⟨g, o' + 3, none⟩ = some (.string t1) ∧ Below w1.heap.size w1 W) W from fun W hW =>
    ⟨(hW.cell (p := ⟨w.heap.size, 0, none⟩) X1.out.lt).trans X1.out.1, (hW.cell (p := ⟨w.heap.size, 1, none⟩) X1.out.lt).trans X1.out.2.1, (hW.cell (p := ⟨w.heap.size, 2, none⟩) X1.out.lt).trans X1.out.2.2.1, (hW.cell (p := ⟨w.heap.size, 3, none⟩) X1.out.lt).trans X1.out.2.2.2.1, (hW.cell (p := ⟨w.heap.size, 4, none⟩) X1.out.lt).trans X1.out.2.2.2.2, ((HB.out.trans (hW.mono HB.out.size)).cell (p := ⟨g, o', none⟩) HGL.out).trans HE.out.1, ((HB.out.trans (hW.mono HB.out.size)).cell (p := ⟨g, o' + 1, none⟩) HGL.out).trans HE.out.2.1, ((HB.out.trans (hW.mono HB.out.size)).cell (p := ⟨g, o' + 2, none⟩) HGL.out).trans HE.out.2.2.1, ((HB.out.trans (hW.mono HB.out.size)).cell (p := ⟨g, o' + 3, none⟩) HGL.out).trans HE.out.2.2.2, hW⟩)
  have HD0 := Lib.hid (show Below w1.heap.size w1 w1.drew from (Below.refl _ _).drew)
  have z1 : ¬ 9223372036854775807 < sn.size + 1 := by omega
  have z2 : ¬ 9223372036854775807 < sn.size + 1 + so.size := by omega
  have z3 : ¬ 9223372036854775807 < sn.size + 1 + so.size + 1 := by omega
  have z4 : ¬ 9223372036854775807 < sn.size + 1 + so.size + 1 + st.size := by omega
  have HFN := Lib.hid (show ∀ y : ByteArray, y.data.toList = sn.data.toList ++ 32 :: (so.data.toList ++ 32 :: st.data.toList) → y = res from fun y hy => by rw [bs_of hy, bs_of HR.out])
  go_enter Tryz.func20, Tryz.ntmps20
  go_wp2_with fail
  rw [← HW.out]
  go_region_held3 (fun W => W.cell? ⟨w.heap.size, 0, none⟩ = some (.int .i64 4) ∧ W.cell? ⟨w.heap.size, 1, none⟩ = some (.string sn) ∧ W.cell? ⟨w.heap.size, 2, none⟩ = some (.string so) ∧ W.cell? ⟨w.heap.size, 3, none⟩ = some (.slice (some ⟨g, o', none⟩) 1 c) ∧ W.cell? ⟨w.heap.size, 4, none⟩ = some (.slice b 0 d) ∧ W.cell? ⟨g, o', none⟩ = some (.string s1) ∧ W.cell? ⟨g, o' + 1, none⟩ = some (.bool x1) ∧ W.cell? ⟨g, o' + 2, none⟩ = some (.int .i64 y1) ∧ W.cell? ⟨g, o' + 3, none⟩ = some (.string t1) ∧ Below w1.heap.size w1 W)
    (first | exact HS.out _ HD0.out | exact HS.out _ HB1.out)
    (first | (go_at_call 32; have HX := Lib.hid ((And.right <| And.right <| And.right <| And.right <| And.right <| And.right <| And.right <| And.right <| And.right <| (by assumption))); refine Calls.mono (CV.out _ (HT.out.later (HB.out.trans (HX.out.mono HB.out.size)))) ?_; rintro e w2 ⟨rfl, hb⟩; have HB1 := Lib.hid (HX.out.trans (hb.mono HX.out.size)); clear hb))
  go_wp2_with fail
  go_ret
  exact ⟨congrArg (fun y => Ending.returned (.string y)) (HFN.out _ (by simp)), HB.out.trans (HB1.out.mono HB.out.size)⟩
set_option maxHeartbeats 4000000 in
set_option maxRecDepth 100000 in
theorem text5 (sn so : ByteArray) (vs : List Att) (ps : List Flt) (a : Option Addr) (c : Nat) (b : Option Addr) (d : Nat) (w : World) (hT : LaidT w) (hA : AttsAt w (Old w.heap.size) a vs) (hn20 : sn.size ≤ 20) (ho2 : so.size ≤ 2) (h0 : vs.length = 1) (hvb : ∀ v ∈ vs, v.str.length ≤ 200) (hp0 : ps = []) : Calls Tryz.prog 20 #[.agg #[.int .i64 5, .string sn, .string so, .slice a vs.length c, .slice b ps.length d]] w fun e w' => e = .returned (.string ⟨(showF (.mk 5 sn.data.toList so.data.toList vs ps)).toArray⟩) ∧ Below w.heap.size w w' := by
  subst hp0
  obtain ⟨v0, hpr⟩ : ∃ p, vs = [p] := by
    match vs, h0 with
    | [p], _ => exact ⟨p, rfl⟩
  subst hpr
  have hv2 := hvb v0 (List.mem_cons_self ..)
  have hrv := (hA.2.1 v0 (List.mem_cons_self ..)).2.2
  obtain ⟨st, hst⟩ : ∃ x : ByteArray, x = ⟨(showV v0).toArray⟩ := ⟨_, rfl⟩
  have hsz : st.size ≤ 202 := by
    rw [hst, bytes_size]
    unfold showV
    have := Lib.itoa_length_le v0.num hrv.1 hrv.2
    split
    · simp; omega
    · omega
  obtain ⟨res, hres⟩ : ∃ x : ByteArray, x = ⟨(showF (.mk 5 sn.data.toList so.data.toList [v0] [])).toArray⟩ := ⟨_, rfl⟩
  have HR := Lib.hid (show res.data.toList = sn.data.toList ++ 32 :: (94 :: 61 :: 32 :: st.data.toList) by rw [hres, hst]; simp [showF, showOne, sPre])
  rw [← hres]
  obtain ⟨g, o', hg, hgl, hc⟩ := hA.2.2 (by simp)
  obtain ⟨e0, e1, e2, e3⟩ := hc 0 (by simp)
  simp only [List.getElem_cons_zero, Nat.zero_mul, Nat.add_zero] at e0 e1 e2 e3
  obtain ⟨s1, q1, _⟩ := bs_bytes v0.name
  obtain ⟨t1, q2, f2⟩ := bs_bytes v0.str
  rw [q1] at e0
  rw [q2] at e3
  have CV := Lib.hid (fun W h => valueText_any s1 v0 t1 f2 hv2 hrv W h)
  rw [← hst] at CV
  obtain ⟨x1, hx1⟩ : ∃ x, x = v0.text := ⟨_, rfl⟩
  obtain ⟨y1, hy1⟩ : ∃ x, x = v0.num := ⟨_, rfl⟩
  rw [← hx1] at e1 CV
  rw [← hy1] at e2 CV
  have HE := Lib.hid (And.intro e0 (And.intro e1 (And.intro e2 e3)))
  have HT := Lib.hid hT
  have HGL := Lib.hid hgl
  subst hg
  simp only [List.length_nil, List.length_cons, Nat.zero_add]
  clear hres hT hA h0 hvb hv2 hrv hst hc e0 e1 e2 e3 q1 q2 f2 hx1 hy1 hgl
  obtain ⟨w1, hw1⟩ : ∃ v, v = w.alloc (.cells #[.int .i64 5, .string sn, .string so, .slice (some ⟨g, o', none⟩) 1 c, .slice b 0 d] 25) := ⟨_, rfl⟩
  have X1 := Lib.hid (show Box w1 w.heap.size (.int .i64 5) (.string sn) (.string so) (.slice (some ⟨g, o', none⟩) 1 c) (.slice b 0 d) by rw [hw1]; exact Box.new ..)
  have HB := Lib.hid (show Below w.heap.size w w1 by rw [hw1]; exact (Below.refl _ _).alloc (Nat.le_refl _) _)
  have HW := Lib.hid hw1
  clear hw1
  have HS := Lib.hid (show ∀ W, Below w1.heap.size w1 W → (fun W => W.cell? ⟨w.heap.size, 0, none⟩ = some (.int .i64 5) ∧ W.cell? ⟨w.heap.size, 1, none⟩ = some (.string sn) ∧ W.cell? ⟨w.heap.size, 2, none⟩ = some (.string so) ∧ W.cell? ⟨w.heap.size, 3, none⟩ = some (.slice (some ⟨g, o', none⟩) 1 c) ∧ W.cell? ⟨w.heap.size, 4, none⟩ = some (.slice b 0 d) ∧ W.cell? ⟨g, o', none⟩ = some (.string s1) ∧ W.cell? ⟨g, o' + 1, none⟩ = some (.bool x1) ∧ W.cell? ⟨g, o' + 2, none⟩ = some (.int .i64 y1) ∧ W.cell? ⟨g, o' + 3, none⟩ = some (.string t1) ∧ Below w1.heap.size w1 W) W from fun W hW =>
    ⟨(hW.cell (p := ⟨w.heap.size, 0, none⟩) X1.out.lt).trans X1.out.1, (hW.cell (p := ⟨w.heap.size, 1, none⟩) X1.out.lt).trans X1.out.2.1, (hW.cell (p := ⟨w.heap.size, 2, none⟩) X1.out.lt).trans X1.out.2.2.1, (hW.cell (p := ⟨w.heap.size, 3, none⟩) X1.out.lt).trans X1.out.2.2.2.1, (hW.cell (p := ⟨w.heap.size, 4, none⟩) X1.out.lt).trans X1.out.2.2.2.2, ((HB.out.trans (hW.mono HB.out.size)).cell (p := ⟨g, o', none⟩) HGL.out).trans HE.out.1, ((HB.out.trans (hW.mono HB.out.size)).cell (p := ⟨g, o' + 1, none⟩) HGL.out).trans HE.out.2.1, ((HB.out.trans (hW.mono HB.out.size)).cell (p := ⟨g, o' + 2, none⟩) HGL.out).trans HE.out.2.2.1, ((HB.out.trans (hW.mono HB.out.size)).cell (p := ⟨g, o' + 3, none⟩) HGL.out).trans HE.out.2.2.2, hW⟩)
  have HD0 := Lib.hid (show Below w1.heap.size w1 w1.drew from (Below.refl _ _).drew)
  have z1 : ¬ 9223372036854775807 < sn.size + 4 := by omega
  have z2 : ¬ 9223372036854775807 < sn.size + 4 + st.size := by omega
  have HFN := Lib.hid (show ∀ y : ByteArray, y.data.toList = sn.data.toList ++ 32 :: (94 :: 61 :: 32 :: st.data.toList) → y = res from fun y hy => by rw [bs_of hy, bs_of HR.out])
  go_enter Tryz.func20, Tryz.ntmps20
  go_wp2_with fail
  rw [← HW.out]
  go_region_held3 (fun W => W.cell? ⟨w.heap.size, 0, none⟩ = some (.int .i64 5) ∧ W.cell? ⟨w.heap.size, 1, none⟩ = some (.string sn) ∧ W.cell? ⟨w.heap.size, 2, none⟩ = some (.string so) ∧ W.cell? ⟨w.heap.size, 3, none⟩ = some (.slice (some ⟨g, o', none⟩) 1 c) ∧ W.cell? ⟨w.heap.size, 4, none⟩ = some (.slice b 0 d) ∧ W.cell? ⟨g, o', none⟩ = some (.string s1) ∧ W.cell? ⟨g, o' + 1, none⟩ = some (.bool x1) ∧ W.cell? ⟨g, o' + 2, none⟩ = some (.int .i64 y1) ∧ W.cell? ⟨g, o' + 3, none⟩ = some (.string t1) ∧ Below w1.heap.size w1 W)
    (first | exact HS.out _ HD0.out | exact HS.out _ HB1.out)
    (first | (go_at_call 32; have HX := Lib.hid ((And.right <| And.right <| And.right <| And.right <| And.right <| And.right <| And.right <| And.right <| And.right <| (by assumption))); refine Calls.mono (CV.out _ (HT.out.later (HB.out.trans (HX.out.mono HB.out.size)))) ?_; rintro e w2 ⟨rfl, hb⟩; have HB1 := Lib.hid (HX.out.trans (hb.mono HX.out.size)); clear hb))
  go_wp2_with fail
  go_ret
  exact ⟨congrArg (fun y => Ending.returned (.string y)) (HFN.out _ (by simp)), HB.out.trans (HB1.out.mono HB.out.size)⟩
set_option maxHeartbeats 4000000 in
set_option maxRecDepth 100000 in
theorem text6 (sn so : ByteArray) (vs : List Att) (ps : List Flt) (a : Option Addr) (c : Nat) (b : Option Addr) (d : Nat) (w : World) (hT : LaidT w) (hA : AttsAt w (Old w.heap.size) a vs) (hn20 : sn.size ≤ 20) (h0 : 0 < vs.length) (h20 : vs.length ≤ 20) (hvb : ∀ v ∈ vs, valB v = true) (hp0 : ps = []) : Calls Tryz.prog 20 #[.agg #[.int .i64 6, .string sn, .string so, .slice a vs.length c, .slice b ps.length d]] w fun e w' => e = .returned (.string ⟨(showF (.mk 6 sn.data.toList so.data.toList vs ps)).toArray⟩) ∧ Below w.heap.size w w' := by
  subst hp0
  obtain ⟨v0, r, hpr⟩ : ∃ p r, vs = p :: r := by
    cases h : vs with
    | nil => rw [h] at h0; simp at h0
    | cons p r => exact ⟨p, r, rfl⟩
  subst hpr
  have CV := Lib.hid (fun W h1 h2 => valuesText_any v0 r a c W h1 h2 hvb h20)
  obtain ⟨st, hst⟩ : ∃ x : ByteArray, x = ⟨(showV v0 ++ showVs r).toArray⟩ := ⟨_, rfl⟩
  have hsz : st.size ≤ 5000 := by
    rw [hst, bytes_size, List.length_append]
    have h1 := showV_len (hvb v0 (List.mem_cons_self ..)) (hA.2.1 v0 (List.mem_cons_self ..)).2.2
    have h2 := showVs_len (vs := r) fun q hq => ⟨hvb q (List.mem_cons_of_mem _ hq), (hA.2.1 q (List.mem_cons_of_mem _ hq)).2.2⟩
    simp only [List.length_cons] at h20
    omega
  rw [← hst] at CV
  obtain ⟨res, hres⟩ : ∃ x : ByteArray, x = ⟨(showF (.mk 6 sn.data.toList so.data.toList (v0 :: r) [])).toArray⟩ := ⟨_, rfl⟩
  have HR := Lib.hid (show res.data.toList = sn.data.toList ++ 32 :: (105 :: 110 :: 32 :: 40 :: (st.data.toList ++ [41])) by rw [hres, hst]; simp [showF, wIn])
  rw [← hres]
  have HT := Lib.hid hT
  have HA := Lib.hid hA
  obtain ⟨n, hn⟩ : ∃ n, n = (v0 :: r).length := ⟨_, rfl⟩
  rw [← hn] at CV ⊢
  simp only [List.length_nil]
  clear hres hT hA h0 h20 hvb hst hn
  obtain ⟨w1, hw1⟩ : ∃ v, v = w.alloc (.cells #[.int .i64 6, .string sn, .string so, .slice a n c, .slice b 0 d] 25) := ⟨_, rfl⟩
  have X1 := Lib.hid (show Box w1 w.heap.size (.int .i64 6) (.string sn) (.string so) (.slice a n c) (.slice b 0 d) by rw [hw1]; exact Box.new ..)
  have HB := Lib.hid (show Below w.heap.size w w1 by rw [hw1]; exact (Below.refl _ _).alloc (Nat.le_refl _) _)
  have HW := Lib.hid hw1
  clear hw1
  have HS := Lib.hid (show ∀ W, Below w1.heap.size w1 W → (fun W => W.cell? ⟨w.heap.size, 0, none⟩ = some (.int .i64 6) ∧ W.cell? ⟨w.heap.size, 1, none⟩ = some (.string sn) ∧ W.cell? ⟨w.heap.size, 2, none⟩ = some (.string so) ∧ W.cell? ⟨w.heap.size, 3, none⟩ = some (.slice a n c) ∧ W.cell? ⟨w.heap.size, 4, none⟩ = some (.slice b 0 d) ∧ Below w1.heap.size w1 W) W from fun W hW =>
    ⟨(hW.cell (p := ⟨w.heap.size, 0, none⟩) X1.out.lt).trans X1.out.1, (hW.cell (p := ⟨w.heap.size, 1, none⟩) X1.out.lt).trans X1.out.2.1, (hW.cell (p := ⟨w.heap.size, 2, none⟩) X1.out.lt).trans X1.out.2.2.1, (hW.cell (p := ⟨w.heap.size, 3, none⟩) X1.out.lt).trans X1.out.2.2.2.1, (hW.cell (p := ⟨w.heap.size, 4, none⟩) X1.out.lt).trans X1.out.2.2.2.2, hW⟩)
  have HD0 := Lib.hid (show Below w1.heap.size w1 w1.drew from (Below.refl _ _).drew)
  have z1 : ¬ 9223372036854775807 < sn.size + 5 := by omega
  have z2 : ¬ 9223372036854775807 < sn.size + 5 + st.size := by omega
  have z3 : ¬ 9223372036854775807 < sn.size + 5 + st.size + 1 := by omega
  have HFN := Lib.hid (show ∀ y : ByteArray, y.data.toList = sn.data.toList ++ 32 :: (105 :: 110 :: 32 :: 40 :: (st.data.toList ++ [41])) → y = res from fun y hy => by rw [bs_of hy, bs_of HR.out])
  go_enter Tryz.func20, Tryz.ntmps20
  go_wp2_with fail
  rw [← HW.out]
  go_region_held3 (fun W => W.cell? ⟨w.heap.size, 0, none⟩ = some (.int .i64 6) ∧ W.cell? ⟨w.heap.size, 1, none⟩ = some (.string sn) ∧ W.cell? ⟨w.heap.size, 2, none⟩ = some (.string so) ∧ W.cell? ⟨w.heap.size, 3, none⟩ = some (.slice a n c) ∧ W.cell? ⟨w.heap.size, 4, none⟩ = some (.slice b 0 d) ∧ Below w1.heap.size w1 W)
    (first | exact HS.out _ HD0.out | exact HS.out _ HB1.out)
    (first | (go_at_call 33; have HX := Lib.hid ((And.right <| And.right <| And.right <| And.right <| And.right <| (by assumption))); refine Calls.mono (CV.out _ (HT.out.later (HB.out.trans (HX.out.mono HB.out.size))) (HA.out.fit (HB.out.trans (HX.out.mono HB.out.size)))) ?_; rintro e w2 ⟨rfl, hb⟩; have HB1 := Lib.hid (HX.out.trans (hb.mono HX.out.size)); clear hb))
  go_wp2_with fail
  go_ret
  exact ⟨congrArg (fun y => Ending.returned (.string y)) (HFN.out _ (by simp)), HB.out.trans (HB1.out.mono HB.out.size)⟩
theorem text_ok (f : Flt) (ih : ∀ q ∈ f.parts, TextOk q) : TextOk f := by
  obtain ⟨k, nm, o, vs, ps⟩ := f
  intro a c b d w hT hF hf h5
  simp only [Flt.parts] at ih
  have hA := hF.atts
  have hP := hF.parts
  simp only [Flt.vals] at hA
  simp only [Flt.parts] at hP
  have hfs := fine_small hf
  have hfw : wholeB k nm o vs ps.length = true := by
    rw [fine_eq, Bool.and_eq_true] at hf
    exact hf.1
  have h5' : szL ps ≤ 99 := by rw [sz] at h5; omega
  show Calls _ _ #[.agg #[.int .i64 k, bs nm, bs o, .slice a vs.length c, .slice b ps.length d]] _ _
  obtain ⟨sn, en, hsn⟩ := bs_bytes nm
  obtain ⟨so, eo, hso⟩ := bs_bytes o
  rw [en, eo]
  rw [← hsn, ← hso] at hfw ⊢
  have hn20 : sn.size ≤ 20 := by rw [Lib.size_eq, hsn]; exact hfs.1
  have ho2 : so.size ≤ 2 := by rw [Lib.size_eq, hso]; exact hfs.2.1
  have hvs : ∀ v ∈ vs, v.str.length ≤ 200 := fun v hv => (hfs.2.2.2.1 v hv).2
  unfold wholeB at hfw
  by_cases h1 : k = 1
  · subst h1
    rw [if_pos (by omega)] at hfw
    simp [bareB] at hfw
    exact text1 sn so vs ps a c b d w hT hP ih hfs.2.2.2.2 h5' (by omega) (by simpa using hfw.1.2)
  by_cases h2 : k = 2
  · subst h2
    rw [if_pos (by omega)] at hfw
    simp [bareB] at hfw
    exact text2 sn so vs ps a c b d w hT hP ih hfs.2.2.2.2 h5' (by omega) (by simpa using hfw.1.2)
  rw [if_neg (by omega)] at hfw
  by_cases h3 : k = 3
  · subst h3
    rw [if_pos rfl] at hfw
    simp [bareB] at hfw
    exact text3 sn so vs ps a c b d w hT hP ih hfs.2.2.2.2 h5' hfw.2 (by simpa using hfw.1.2)
  rw [if_neg h3] at hfw
  by_cases h7 : k = 7
  · subst h7
    rw [if_pos rfl] at hfw
    simp [bareB] at hfw
    exact text7 sn so vs ps a c b d w (by simpa using hfw.1.2) (by simpa using hfw.2)
  rw [if_neg h7] at hfw
  by_cases h4 : k = 4
  · subst h4
    rw [if_pos rfl] at hfw
    simp [leafQ] at hfw
    exact text4 sn so vs ps a c b d w hT hA hn20 ho2 hfw.2 hvs hfw.1.1.1.1.1
  rw [if_neg h4] at hfw
  by_cases h5k : k = 5
  · subst h5k
    rw [if_pos rfl] at hfw
    simp [leafQ] at hfw
    exact text5 sn so vs ps a c b d w hT hA hn20 ho2 hfw.1.2 hvs hfw.1.1.1.1.1.1
  rw [if_neg h5k] at hfw
  by_cases h6 : k = 6
  · subst h6
    rw [if_pos rfl] at hfw
    simp [leafQ] at hfw
    exact text6 sn so vs ps a c b d w hT hA hn20 (by cases vs <;> simp_all) hfs.2.2.1 hfw.1.1.1.2 hfw.1.1.1.1.1.1
  rw [if_neg h6] at hfw
  cases hfw
theorem text_all : ∀ (N : Nat) (f : Flt), sz f ≤ N → TextOk f
  | 0, f, h => by have := sz_pos f; omega
  | N + 1, f, h => text_ok f fun q hq => text_all N q (by
      cases f
      simp only [Flt.parts] at hq
      have := sz_mem hq
      rw [sz] at h
      omega)
end Go.Proofs.YtjffnjiggcfhcaaGreatDoor.Fl
/-
  Contract of Text of package filter. Memory that was there is left as it was.
-/
namespace Go.Proofs.YtjffnjiggcfhcaaGreatDoor.Fl
open Go.RowKit Go.Proofs.YtjffnjiggcfhcaaGreatDoor.Tk
set_option linter.unusedVariables false
set_option linter.unusedSimpArgs false

def TextEnd (f : Flt) (w w' : World) (e : Ending) : Prop :=
  Below w.heap.size w w' ∧ ((mayB f 10 60 = false ∧ e = .returned (.tuple #[.string ⟨#[]⟩, .iface 33 (.int .i64 1)])) ∨ (mayB f 10 60 = true ∧ e = .returned (.tuple #[.string ⟨(showF f).toArray⟩, .nilIface])))
theorem may_fine {f : Flt} {d n : Nat} (h : mayB f d n = true) : fine f = true ∧ dep f ≤ d ∧ sz f ≤ n := by
  unfold mayB at h
  simp only [Bool.and_eq_true, decide_eq_true_eq] at h
  exact ⟨h.1.1, h.1.2, h.2⟩
set_option maxHeartbeats 1000000 in
theorem textTop_any (f : Flt) (a : Option Addr) (c : Nat) (b : Option Addr) (d : Nat) (w : World) (hE : LaidE w) (hT : LaidT w) (hF : FltAt w (Old w.heap.size) f a b) :
    Calls Tryz.prog 8 #[.agg #[.int .i64 f.kind, bs f.name, bs f.op, .slice a f.vals.length c, .slice b f.parts.length d]] w fun e w' => TextEnd f w w' e := by
  have HF := Lib.hid hF
  have HE := Lib.hid hE
  have HT := Lib.hid hT
  have CM := Lib.hid (fun W h1 h2 => filterMay_any f a c b d W h1 h2)
  have CT := Lib.hid (fun (h : mayB f 10 60 = true) W h1 h2 => text_all (sz f) f (Nat.le_refl _) a c b d W h1 h2 (may_fine h).1 (by have := (may_fine h).2.2; omega))
  obtain ⟨sn, esn, _⟩ := bs_bytes f.name
  obtain ⟨so, eso, _⟩ := bs_bytes f.op
  obtain ⟨fk, hfk⟩ : ∃ x, x = f.kind := ⟨_, rfl⟩
  obtain ⟨n1, hn1⟩ : ∃ x, x = f.vals.length := ⟨_, rfl⟩
  obtain ⟨n2, hn2⟩ : ∃ x, x = f.parts.length := ⟨_, rfl⟩
  obtain ⟨mb, hmb⟩ : ∃ x, x = mayB f 10 60 := ⟨_, rfl⟩
  rw [esn, eso, ← hfk, ← hn1, ← hn2] at CM CT ⊢
  rw [← hmb] at CM
  have HMB := Lib.hid hmb
  clear hF hE hT esn eso hfk hn1 hn2 hmb
  obtain ⟨w1, hw1⟩ : ∃ v, v = w.alloc (.cells #[.int .i64 fk, .string sn, .string so, .slice a n1 c, .slice b n2 d] 25) := ⟨_, rfl⟩
  have HW := Lib.hid hw1
  have B1 := Lib.hid (show Below w.heap.size w w1 by rw [hw1]; exact (Below.refl _ _).alloc (Nat.le_refl _) _)
  have X1 := Lib.hid (show Box w1 w.heap.size (.int .i64 fk) (.string sn) (.string so) (.slice a n1 c) (.slice b n2 d) by rw [hw1]; exact Box.new ..)
  have CM1 := Lib.hid (CM.out w1 (HE.out.later B1.out) ((HF.out.later B1.out).wide B1.out.size))
  clear hw1
  go_enter Tryz.func8, Tryz.ntmps8
  go_wp2_with fail
  rw [← HW.out]
  refine Calls.mono CM1.out ?_
  rintro e w2 ⟨rfl, hb2⟩
  have B2 := Lib.hid (B1.out.trans (hb2.mono B1.out.size))
  have X2 := Lib.hid (X1.out.later hb2)
  clear hb2
  cases mb with
  | false =>
    go_wp2_with fail
    refine bodyPost_ret (v := .tuple #[.string ⟨#[]⟩, .iface 33 (.int .i64 1)]) (by simp [results, Tryz.results8, go_sem]) rfl ?_
    exact ⟨B2.out, Or.inl ⟨HMB.out.symm, rfl⟩⟩
  | true =>
    have CT2 := Lib.hid (CT.out HMB.out.symm w2 (HT.out.later B2.out) ((HF.out.later B2.out).wide B2.out.size))
    obtain ⟨x0, x1, x2, x3, x4⟩ := X2.out
    have xl : w.heap.size < w2.heap.size := X2.out.lt
    go_wp2_with fail
    refine Calls.mono CT2.out ?_
    rintro e w3 ⟨rfl, hb3⟩
    have B3 := Lib.hid (B2.out.trans (hb3.mono B2.out.size))
    clear hb3
    go_wp2_with fail
    refine bodyPost_ret (v := .tuple #[.string ⟨(showF f).toArray⟩, .nilIface]) (by simp [results, Tryz.results8, go_sem]) rfl ?_
    exact ⟨B3.out, Or.inr ⟨HMB.out.symm, rfl⟩⟩
end Go.Proofs.YtjffnjiggcfhcaaGreatDoor.Fl
namespace Go.Proofs.YtjffnjiggcfhcaaGreatDoor.Fl
open Go.RowKit Go.Proofs.YtjffnjiggcfhcaaGreatDoor.Tk
set_option linter.unusedVariables false
set_option linter.unusedSimpArgs false

def upS : List UInt8 := [97, 32, 60, 32, 53, 32, 97, 110, 100, 32, 40, 98, 32, 61, 32, 34, 120, 34, 32, 111, 114, 32, 110, 111, 116, 32, 99, 32, 105, 110, 32, 40, 49, 41, 41]
def upF : Flt := .mk 1 [] [] [] [.mk 4 [97] [60] [⟨[], false, 5, []⟩] [], .mk 2 [] [] [] [.mk 4 [98] [61] [⟨[], true, 0, [120]⟩] [], .mk 3 [] [] [] [.mk 6 [99] [] [⟨[], false, 1, []⟩] []]]]
def trueF : Flt := .mk 7 [] [] [] []
def zeroF : Flt := .mk 0 [] [] [] []
theorem up_read : readL upS = some upF := by kernel_rfl
theorem up_may : mayB upF 10 60 = true := by kernel_rfl
theorem up_a : readL [97] = none := by kernel_rfl
theorem up_aks : ∃ ks, cutAt 0 [97] = some ks := ⟨[⟨1, 0, 0, [97]⟩], by kernel_rfl⟩
theorem up_true : mayB trueF 10 60 = true := by kernel_rfl
theorem up_zero : mayB zeroF 10 60 = false := by kernel_rfl
theorem up_text : showF trueF = [116, 114, 117, 101] := by unfold trueF; first | (simp [showF]; done) | (rw [showF]; rfl)
theorem eql_iface (n : Int) (w : World) : (binOp .eql 29 (.iface 33 (.int .i64 n)) (.iface 33 (.int .i64 n))).run Tryz.prog w = .ok (.bool (n == n)) w := by kernel_rfl
set_option maxHeartbeats 4000000 in
set_option maxRecDepth 100000 in
theorem up_any (w : World) (hE : LaidE w) (hT : LaidT w) : Calls Tryz.prog 5 #[] w fun e w' => e = .returned (.bool true) ∧ Below w.heap.size w w' := by
  have HE := Lib.hid hE
  have HT := Lib.hid hT
  have C1 := Lib.hid (read_any ⟨upS.toArray⟩ w hE)
  have e1 := eqN
  have e2 : ∀ w, (binOp .eql 29 (.iface 33 (.int .i64 3)) (.iface 33 (.int .i64 3))).run Tryz.prog w = .ok (.bool true) w := fun w => eql_iface 3 w
  clear hE hT
  go_enter Tryz.func5, Tryz.ntmps5
  go_wp2_with fail
  refine Calls.mono C1.out ?_
  rintro e w1 ⟨hb1, ⟨n, _, hno⟩ | ⟨f, a, c, b, d, hr, hm, _, he, hF⟩⟩
  · exfalso
    rcases hno with ⟨h, _⟩ | ⟨_, _, h⟩ | ⟨_, _, _, h⟩ | ⟨_, _, f, h, h2⟩
    · exact absurd h (by decide)
    · have := up_read
      unfold readL at this
      rw [show cutAt 0 upS = none from h] at this
      cases this
    · exact absurd ((show readL upS = none from h).symm.trans up_read) (by simp)
    · obtain rfl : f = upF := Option.some.inj ((show readL upS = some f from h).symm.trans up_read)
      rw [up_may] at h2
      cases h2
  · obtain rfl : f = upF := Option.some.inj ((show readL upS = some f from hr).symm.trans up_read)
    have he' : e = .returned (.tuple #[.agg #[.int .i64 1, .string ⟨#[]⟩, .string ⟨#[]⟩, .slice a 0 c, .slice b 2 d], .nilIface]) := he
    subst he'
    have B1 := Lib.hid hb1
    have F1 := Lib.hid hF
    clear hb1 hF hr hm he
    obtain ⟨w2, hw2⟩ : ∃ v, v = w1.alloc (.cells #[.int .i64 1, .string ⟨#[]⟩, .string ⟨#[]⟩, .slice a 0 c, .slice b 2 d] 25) := ⟨_, rfl⟩
    have HW2 := Lib.hid hw2
    have B2 := Lib.hid (show Below w.heap.size w w2 by rw [hw2]; exact B1.out.alloc B1.out.size _)
    have X2 := Lib.hid (show Box w2 w1.heap.size (.int .i64 1) (.string ⟨#[]⟩) (.string ⟨#[]⟩) (.slice a 0 c) (.slice b 2 d) by rw [hw2]; exact Box.new ..)
    have F2 := Lib.hid (show FltAt w2 (Old w2.heap.size) upF a b by rw [hw2]; exact F1.out.far fun g h => ⟨by have := h.2; show g < _; simp; omega, Below.heap_alloc _ _ _ h.2⟩)
    have C2 := Lib.hid (read_any ⟨#[97]⟩ w2 (HE.out.later B2.out))
    clear hw2
    go_wp2_with fail
    rw [← HW2.out]
    refine Calls.mono C2.out ?_
    rintro e w3 ⟨hb3, ⟨n, rfl, hno⟩ | ⟨f, _, _, _, _, hr, _⟩⟩
    · have hn : n = 3 := by
        rcases hno with ⟨h, _⟩ | ⟨_, _, h⟩ | ⟨_, h, _, _⟩ | ⟨_, _, f, h, _⟩
        · exact absurd h (by decide)
        · obtain ⟨ks, hk⟩ := up_aks
          rw [show cutAt 0 [97] = none from h] at hk
          cases hk
        · exact h
        · exact absurd ((show readL [97] = some f from h).symm.trans up_a) (by simp)
      subst hn
      have B3 := Lib.hid (B2.out.trans (hb3.mono B2.out.size))
      have X3 := Lib.hid (X2.out.later hb3)
      have F3 := Lib.hid (F2.out.later hb3)
      have H23 := Lib.hid hb3.size
      clear hb3 hno
      obtain ⟨w4, hw4⟩ : ∃ v, v = w3.alloc (.cells #[.int .i64 0, .string ⟨#[]⟩, .string ⟨#[]⟩, .slice none 0 0, .slice none 0 0] 25) := ⟨_, rfl⟩
      have HW4 := Lib.hid hw4
      have B4 := Lib.hid (show Below w.heap.size w w4 by rw [hw4]; exact B3.out.alloc B3.out.size _)
      have B34 := Lib.hid (show Below w3.heap.size w3 w4 by rw [hw4]; exact (Below.refl _ _).alloc (Nat.le_refl _) _)
      have X4 := Lib.hid (X3.out.later B34.out)
      have F4 := Lib.hid (F3.out.later (B34.out.mono H23.out))
      have C4 := Lib.hid (show Calls Tryz.prog 8 #[.agg #[.int .i64 7, .string ⟨#[]⟩, .string ⟨#[]⟩, .slice none 0 0, .slice none 0 0]] w4 fun e w' => TextEnd trueF w4 w' e from textTop_any trueF none 0 none 0 w4 (HE.out.later B4.out) (HT.out.later B4.out) (FltAt.mk' ⟨by decide, by decide, by decide, by decide, by decide⟩ ⟨by decide, (fun v h => by cases h), fun h => absurd h (Nat.lt_irrefl _)⟩ (by rw [show trueF.parts = [] from rfl, PartsAt]; trivial)))
      clear hw4
      go_wp2_with fail
      rw [← HW4.out]
      refine Calls.mono C4.out ?_
      rintro e w5 ⟨hb5, ⟨hm, _⟩ | ⟨_, rfl⟩⟩
      · rw [up_true] at hm
        cases hm
      · rw [up_text]
        have B5 := Lib.hid (B4.out.trans (hb5.mono B4.out.size))
        have X5 := Lib.hid (X4.out.later hb5)
        have F5 := Lib.hid ((F4.out.later (hb5.mono (Nat.le_trans H23.out B34.out.size))).wide (Nat.le_trans (Nat.le_trans H23.out B34.out.size) hb5.size))
        clear hb5
        have C5 := Lib.hid (show Calls Tryz.prog 9 #[.agg #[.int .i64 1, .string ⟨#[]⟩, .string ⟨#[]⟩, .slice a 0 c, .slice b 2 d]] w5 fun e w' => e = .returned (.bool true) ∧ Below w5.heap.size w5 w' from up_may ▸ filterMay_any upF a c b d w5 (HE.out.later B5.out) F5.out)
        have C6 := Lib.hid (fun W (h : LaidE W) => (show Calls Tryz.prog 9 #[.agg #[.int .i64 0, .string ⟨#[]⟩, .string ⟨#[]⟩, .slice none 0 0, .slice none 0 0]] W fun e w' => e = .returned (.bool false) ∧ Below W.heap.size W w' from up_zero ▸ filterMay_any zeroF none 0 none 0 W h (FltAt.mk' ⟨by decide, by decide, by decide, by decide, by decide⟩ ⟨by decide, (fun v h => by cases h), fun h => absurd h (Nat.lt_irrefl _)⟩ (by rw [show zeroF.parts = [] from rfl, PartsAt]; trivial))))
        obtain ⟨x0, x1, x2, x3, x4⟩ := X5.out
        have xl : w1.heap.size < w5.heap.size := X5.out.lt
        go_wp2_with fail
        refine Calls.mono C5.out ?_
        rintro e w6 ⟨rfl, hb6⟩
        have B6 := Lib.hid (B5.out.trans (hb6.mono B5.out.size))
        clear hb6
        go_wp2_with fail
        refine Calls.mono (C6.out _ (HE.out.later B6.out)) ?_
        rintro e w7 ⟨rfl, hb7⟩
        have B7 := Lib.hid (B6.out.trans (hb7.mono B6.out.size))
        clear hb7
        go_wp2_with fail
        go_ret
        exact ⟨rfl, B7.out⟩
    · exact absurd ((show readL [97] = some f from hr).symm.trans up_a) (by simp)
end Go.Proofs.YtjffnjiggcfhcaaGreatDoor.Fl
