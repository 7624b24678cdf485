/-
  Contracts of the document's answers Deep, Nodes, May: how deep a filter is, how many nodes it has, whether it may be. Memory that was there is left as it was.
-/
import Derived.Test.YtmfkpoojfpepaaaGreatDoorMp13
/-
  Contract of the document's answer fine: may a filter be, but for its depth, and its nodes? Memory that was there is left as it was.
-/
namespace Go.Proofs.YtmfkpoojfpepaaaGreatDoor.Fl
open Go.RowKit Go.Proofs.YtmfkpoojfpepaaaGreatDoor.Tk
set_option linter.unusedVariables false
set_option linter.unusedSimpArgs false

def FineOk (f : Flt) : Prop := ∀ (a : Option Addr) (c : Nat) (b : Option Addr) (d : Nat) (w : World), FltAt w (Old w.heap.size) f a b →
  Calls Tryz.prog 46 #[.agg #[.int .i64 f.kind, bs f.name, bs f.op, .slice a f.vals.length c, .slice b f.parts.length d]] w fun e w' => e = .returned (.bool (fine f)) ∧ Below w.heap.size w w'
def partP (k : Int) (q : Flt) : Bool := fine q && (decide (k = 3) || !decide (q.kind = k))
def FnR (k : Int) (ps : List Flt) (w : World) (vi : Value) (wr : World) : Prop :=
  ∃ j : Nat, j ≤ ps.length ∧ vi = .int .i64 j ∧ Hid (∀ q ∈ ps.take j, partP k q = true) ∧ Below w.heap.size w wr
theorem take_more_flt {ps : List Flt} {j : Nat} {q : Flt} {p : Flt → Bool} (h : ∀ v ∈ ps.take j, p v = true) (hk : ps[j]? = some q) (hv : p q = true) : ∀ v ∈ ps.take (j + 1), p v = true := by
  rw [List.take_add_one, hk]
  intro u hu
  rcases List.mem_append.1 hu with hu | hu
  · exact h u hu
  · simp at hu
    rw [hu]
    exact hv
set_option maxHeartbeats 8000000 in
set_option maxRecDepth 100000 in
theorem fine1 (nm o : List UInt8) (vs : List Att) (ps : List Flt) (ih : ∀ q ∈ ps, FineOk q) : FineOk (.mk 1 nm o vs ps) := by
  obtain ⟨k, hk⟩ : ∃ k : Int, k = 1 := ⟨_, rfl⟩
  obtain ⟨f, hf⟩ : ∃ f : Flt, f = .mk 1 nm o vs ps := ⟨_, rfl⟩
  clear hk k hf f
  intro a c b d w hF
  simp only [Flt.kind, Flt.name, Flt.op, Flt.vals, Flt.parts]
  obtain ⟨sn, en, hsn⟩ := bs_bytes nm
  obtain ⟨so, eo, hso⟩ := bs_bytes o
  rw [en, eo]
  have IH := Lib.hid ih
  have HA := Lib.hid hF.atts
  have HP := Lib.hid hF.parts
  simp only [Flt.vals] at HA
  simp only [Flt.parts] at HP
  have HSN := Lib.hid hsn
  have HSO := Lib.hid hso
  have hlen : ps.length ≤ 9223372036854775807 := by have := hF.small.2.2.2.2; simp only [Flt.parts] at this; unfold maxLen at this; omega
  have hvl : vs.length ≤ 9223372036854775807 := by have := hF.atts.1; simp only [Flt.vals] at this; unfold maxLen at this; omega
  obtain ⟨n, hn⟩ : ∃ n, n = vs.length := ⟨_, rfl⟩
  obtain ⟨l, hl⟩ : ∃ n, n = ps.length := ⟨_, rfl⟩
  have HN := Lib.hid hn
  have HL := Lib.hid hl
  rw [← hn] at hvl
  rw [← hl] at hlen
  have hv0 : fine (.mk 1 nm o vs ps) = (decide (sn = ⟨#[]⟩) && decide (so = ⟨#[]⟩) && decide (n = 0) && decide (2 ≤ l) && ps.all (partP 1)) := by
    have q1 : (nm == []) = decide (sn = ⟨#[]⟩) := by rw [← beq_bytes sn ⟨#[]⟩, Lib.toList_data, Lib.toList_data, hsn]
    have q2 : (o == []) = decide (so = ⟨#[]⟩) := by rw [← beq_bytes so ⟨#[]⟩, Lib.toList_data, Lib.toList_data, hso]
    have q3 : vs.isEmpty = decide (n = 0) := by rw [hn]; cases vs <;> simp
    rw [fine, if_neg (by decide), q1, q2, q3, fineL_all, hl]
    rfl
  obtain ⟨res, hres⟩ : ∃ x, x = fine (.mk 1 nm o vs ps) := ⟨_, rfl⟩
  rw [← hres] at hv0 ⊢
  have HV := Lib.hid hv0
  rw [← hn, ← hl]
  clear ih hF en eo hsn hso hv0 hres hn hl
  obtain ⟨w1, hw1⟩ : ∃ v, v = w.alloc (.cells #[.int .i64 1, .string sn, .string so, .slice a n c, .slice b l d] 27) := ⟨_, rfl⟩
  have X1 := Lib.hid (show Box w1 w.heap.size (.int .i64 1) (.string sn) (.string so) (.slice a n c) (.slice b l d) by rw [hw1]; exact Box.new ..)
  have HB := Lib.hid (show Below w.heap.size w w1 by rw [hw1]; exact (Below.refl _ _).alloc (Nat.le_refl _) _)
  have HW := Lib.hid hw1
  clear hw1
  by_cases ht : 2 ≤ l
  case neg =>
    have htz : ¬ (2 : Int) ≤ l := by omega
    have htb : decide ((2 : Int) ≤ l) = false := decide_eq_false htz
    have HF := Lib.hid (show res = false by rw [HV.out, decide_eq_false ht]; simp)
    go_enter Tryz.func46, Tryz.ntmps46
    go_wp2_with fail
    go_ret
    exact ⟨by rw [HF.out]; rfl, by rw [← HW.out]; exact HB.out⟩
  have htz : (2 : Int) ≤ l := by omega
  by_cases h1 : sn = ⟨#[]⟩
  case neg =>
    have h1l := ne_bytes' h1
    have h1b : (sn.toList == []) = false := by rw [beq_eq_false_iff_ne]; exact h1l
    have h1d : decide (sn.toList = []) = false := decide_eq_false h1l
    have HF := Lib.hid (show res = false by rw [HV.out, decide_eq_false h1]; simp)
    go_enter Tryz.func46, Tryz.ntmps46
    go_wp2_with fail
    go_ret
    exact ⟨by rw [HF.out]; rfl, by rw [← HW.out]; exact HB.out⟩
  by_cases h2 : so = ⟨#[]⟩
  case neg =>
    have h2l := ne_bytes' h2
    have h2b : (so.toList == []) = false := by rw [beq_eq_false_iff_ne]; exact h2l
    have h2d : decide (so.toList = []) = false := decide_eq_false h2l
    subst h1
    have HF := Lib.hid (show res = false by rw [HV.out, decide_eq_false h2]; simp)
    go_enter Tryz.func46, Tryz.ntmps46
    go_wp2_with fail
    go_ret
    exact ⟨by rw [HF.out]; rfl, by rw [← HW.out]; exact HB.out⟩
  by_cases h3 : n = 0
  case neg =>
    have h3z : (0 : Int) < n := by omega
    have h3b : decide ((0 : Int) < n) = true := decide_eq_true h3z
    subst h1
    subst h2
    have HF := Lib.hid (show res = false by rw [HV.out, decide_eq_false h3]; simp)
    go_enter Tryz.func46, Tryz.ntmps46
    go_wp2_with fail
    go_ret
    exact ⟨by rw [HF.out]; rfl, by rw [← HW.out]; exact HB.out⟩
  subst h1
  subst h2
  have HRE := Lib.hid (show res = ps.all (partP 1) by rw [HV.out, decide_eq_true ht, decide_eq_true h3]; simp)
  clear HV
  subst h3
  go_enter Tryz.func46, Tryz.ntmps46
  go_wp2_with fail
  rw [← HW.out]
  go_loopw [5] (fun vi wr => FnR 1 ps w1 vi wr) (fun vi _ => l - (intOf vi).toNat)
  case atStart => exact ⟨0, Nat.zero_le _, rfl, Lib.hid (by simp), Below.refl _ _⟩
  case round =>
    obtain ⟨j, hk, rfl, hall, hBB⟩ := hrel
    have HK := Lib.hid hk
    have HBB := Lib.hid hBB
    have HBW := Lib.hid (HB.out.trans (hBB.mono HB.out.size))
    have X3 := Lib.hid (X1.out.later hBB)
    obtain ⟨p0, p1, p2, p3, p4⟩ := X3.out
    clear hk hBB
    by_cases hlt : j < l
    · have hlz : (j : Int) < (l : Int) := by omega
      have hku : j < ps.length := by rw [← HL.out]; exact hlt
      obtain ⟨g, o', a1, c1, b1, d1, hg, hgl, h5, hf⟩ := (HP.out.later HBW.out).get j hku
      obtain ⟨U, hU⟩ : ∃ V, V = ps[j] := ⟨_, rfl⟩
      rw [← hU] at h5 hf
      have HUK := Lib.hid (show ps[j]? = some U by rw [hU]; exact List.getElem?_eq_getElem hku)
      have CI := Lib.hid (fun W h1 => IH.out U (List.mem_of_getElem? HUK.out) a1 c1 b1 d1 W h1)
      have HFU := Lib.hid hf
      have HGL := Lib.hid (show g < wr.heap.size from Nat.lt_of_lt_of_le hgl HBW.out.size)
      have hgw : g < wr.heap.size := HGL.out
      have hbw : w.heap.size < wr.heap.size := X3.out.lt
      subst hg
      obtain ⟨e0, e1, e2, e3, e4⟩ := h5
      rw [Nat.zero_add] at e0 e1 e2 e3 e4
      obtain ⟨un, hun, _⟩ := bs_bytes U.name
      obtain ⟨uo, huo, _⟩ := bs_bytes U.op
      rw [hun] at e1 CI
      rw [huo] at e2 CI
      obtain ⟨uk, huk⟩ : ∃ x, x = U.kind := ⟨_, rfl⟩
      obtain ⟨uv, huv⟩ : ∃ x, x = U.vals.length := ⟨_, rfl⟩
      obtain ⟨up, hup⟩ : ∃ x, x = U.parts.length := ⟨_, rfl⟩
      rw [← huk] at e0 CI
      rw [← huv] at e3 CI
      rw [← hup] at e4 CI
      have HUKD := Lib.hid huk
      have E0 := Lib.hid e0
      clear hU hf hgl hun huo huk huv hup
      have WA := Lib.hid (show ∀ W, Below w.heap.size wr W → FltAt W (Old W.heap.size) U a1 b1 from fun W hW => (HFU.out.later hW).wide (Nat.le_trans HBW.out.size hW.size))
      obtain ⟨fu, hfu⟩ : ∃ x, x = fine U := ⟨_, rfl⟩
      rw [← hfu] at CI
      have HFN := Lib.hid hfu
      clear hfu
      have HPU := Lib.hid (show partP 1 U = (fu && (decide ((1 : Int) = 3) || !decide (uk = 1))) by rw [partP, HFN.out, HUKD.out])
      cases fu
      case false =>
        have HF := Lib.hid (show res = false by rw [HRE.out, List.all_eq_false]; exact ⟨U, List.mem_of_getElem? HUK.out, by rw [HPU.out]; simp⟩)
        go_wp2_with (go_at_call 46; refine Calls.mono (CI.out _ (WA.out _ (Below.refl _ _))) ?_; rintro e w3 ⟨rfl, hb⟩; have HB3 := Lib.hid (HBW.out.trans (hb.mono HBW.out.size)); have X4 := Lib.hid (X3.out.later hb); obtain ⟨x0, x1, x2, x3, x4⟩ := X4.out; have hu3 := (hb.cell (p := ⟨g, o' + j * 5, none⟩) HGL.out).trans E0.out; clear hb)
        go_big_quiet (fail)
        all_goals
          go_wp2_with fail
          go_ret
          exact ⟨by rw [HF.out]; rfl, below_drewN HB3.out _⟩
      by_cases hkk : uk = 1
      case pos =>
        have HF := Lib.hid (show res = false by rw [HRE.out, List.all_eq_false]; exact ⟨U, List.mem_of_getElem? HUK.out, by rw [HPU.out, hkk]; decide⟩)
        subst hkk
        go_wp2_with (go_at_call 46; refine Calls.mono (CI.out _ (WA.out _ (Below.refl _ _))) ?_; rintro e w3 ⟨rfl, hb⟩; have HB3 := Lib.hid (HBW.out.trans (hb.mono HBW.out.size)); have X4 := Lib.hid (X3.out.later hb); obtain ⟨x0, x1, x2, x3, x4⟩ := X4.out; have hu3 := (hb.cell (p := ⟨g, o' + j * 5, none⟩) HGL.out).trans E0.out; clear hb)
        go_big_quiet (fail)
        all_goals
          go_wp2_with fail
          go_ret
          exact ⟨by rw [HF.out]; rfl, below_drewN HB3.out _⟩
      have hkb : (uk == 1) = false := by rw [beq_eq_false_iff_ne]; exact hkk
      have hkd : decide (uk = 1) = false := decide_eq_false hkk
      have HF := Lib.hid (take_more_flt hall.out HUK.out (show partP 1 U = true by rw [HPU.out, hkd]; rfl))
      go_wp2_with (go_at_call 46; refine Calls.mono (CI.out _ (WA.out _ (Below.refl _ _))) ?_; rintro e w3 ⟨rfl, hb⟩; have HB3 := Lib.hid (HBW.out.trans (hb.mono HBW.out.size)); have HB4 := Lib.hid (HBB.out.trans (hb.mono HBB.out.size)); have X4 := Lib.hid (X3.out.later hb); obtain ⟨x0, x1, x2, x3, x4⟩ := X4.out; have hu3 := (hb.cell (p := ⟨g, o' + j * 5, none⟩) HGL.out).trans E0.out; clear hb)
      go_big_quiet (fail)
      all_goals
        go_wp2_with fail
        go_roundw
        case rel => exact ⟨j + 1, by have := HL.out; omega, by go_num, HF, below_drewN HB4.out _⟩
        case measure => simp [intOf]; omega
    · have hlz : ¬ (j : Int) < (l : Int) := by omega
      have HF := Lib.hid (show res = true by
        rw [HRE.out, List.all_eq_true]
        have := hall.out
        rwa [show j = ps.length by have := HL.out; have := HK.out; omega, List.take_length] at this)
      go_wp2_with fail
      go_ret
      exact ⟨by rw [HF.out]; rfl, HBW.out⟩
set_option maxHeartbeats 8000000 in
set_option maxRecDepth 100000 in
theorem fine2 (nm o : List UInt8) (vs : List Att) (ps : List Flt) (ih : ∀ q ∈ ps, FineOk q) : FineOk (.mk 2 nm o vs ps) := by
  obtain ⟨k, hk⟩ : ∃ k : Int, k = 2 := ⟨_, rfl⟩
  obtain ⟨f, hf⟩ : ∃ f : Flt, f = .mk 2 nm o vs ps := ⟨_, rfl⟩
  clear hk k hf f
  intro a c b d w hF
  simp only [Flt.kind, Flt.name, Flt.op, Flt.vals, Flt.parts]
  obtain ⟨sn, en, hsn⟩ := bs_bytes nm
  obtain ⟨so, eo, hso⟩ := bs_bytes o
  rw [en, eo]
  have IH := Lib.hid ih
  have HA := Lib.hid hF.atts
  have HP := Lib.hid hF.parts
  simp only [Flt.vals] at HA
  simp only [Flt.parts] at HP
  have HSN := Lib.hid hsn
  have HSO := Lib.hid hso
  have hlen : ps.length ≤ 9223372036854775807 := by have := hF.small.2.2.2.2; simp only [Flt.parts] at this; unfold maxLen at this; omega
  have hvl : vs.length ≤ 9223372036854775807 := by have := hF.atts.1; simp only [Flt.vals] at this; unfold maxLen at this; omega
  obtain ⟨n, hn⟩ : ∃ n, n = vs.length := ⟨_, rfl⟩
  obtain ⟨l, hl⟩ : ∃ n, n = ps.length := ⟨_, rfl⟩
  have HN := Lib.hid hn
  have HL := Lib.hid hl
  rw [← hn] at hvl
  rw [← hl] at hlen
  have hv0 : fine (.mk 2 nm o vs ps) = (decide (sn = ⟨#[]⟩) && decide (so = ⟨#[]⟩) && decide (n = 0) && decide (2 ≤ l) && ps.all (partP 2)) := by
    have q1 : (nm == []) = decide (sn = ⟨#[]⟩) := by rw [← beq_bytes sn ⟨#[]⟩, Lib.toList_data, Lib.toList_data, hsn]
    have q2 : (o == []) = decide (so = ⟨#[]⟩) := by rw [← beq_bytes so ⟨#[]⟩, Lib.toList_data, Lib.toList_data, hso]
    have q3 : vs.isEmpty = decide (n = 0) := by rw [hn]; cases vs <;> simp
    rw [fine, if_neg (by decide), q1, q2, q3, fineL_all, hl]
    rfl
  obtain ⟨res, hres⟩ : ∃ x, x = fine (.mk 2 nm o vs ps) := ⟨_, rfl⟩
  rw [← hres] at hv0 ⊢
  have HV := Lib.hid hv0
  rw [← hn, ← hl]
  clear ih hF en eo hsn hso hv0 hres hn hl
  obtain ⟨w1, hw1⟩ : ∃ v, v = w.alloc (.cells #[.int .i64 2, .string sn, .string so, .slice a n c, .slice b l d] 27) := ⟨_, rfl⟩
  have X1 := Lib.hid (show Box w1 w.heap.size (.int .i64 2) (.string sn) (.string so) (.slice a n c) (.slice b l d) by rw [hw1]; exact Box.new ..)
  have HB := Lib.hid (show Below w.heap.size w w1 by rw [hw1]; exact (Below.refl _ _).alloc (Nat.le_refl _) _)
  have HW := Lib.hid hw1
  clear hw1
  by_cases ht : 2 ≤ l
  case neg =>
    have htz : ¬ (2 : Int) ≤ l := by omega
    have htb : decide ((2 : Int) ≤ l) = false := decide_eq_false htz
    have HF := Lib.hid (show res = false by rw [HV.out, decide_eq_false ht]; simp)
    go_enter Tryz.func46, Tryz.ntmps46
    go_wp2_with fail
    go_ret
    exact ⟨by rw [HF.out]; rfl, by rw [← HW.out]; exact HB.out⟩
  have htz : (2 : Int) ≤ l := by omega
  by_cases h1 : sn = ⟨#[]⟩
  case neg =>
    have h1l := ne_bytes' h1
    have h1b : (sn.toList == []) = false := by rw [beq_eq_false_iff_ne]; exact h1l
    have h1d : decide (sn.toList = []) = false := decide_eq_false h1l
    have HF := Lib.hid (show res = false by rw [HV.out, decide_eq_false h1]; simp)
    go_enter Tryz.func46, Tryz.ntmps46
    go_wp2_with fail
    go_ret
    exact ⟨by rw [HF.out]; rfl, by rw [← HW.out]; exact HB.out⟩
  by_cases h2 : so = ⟨#[]⟩
  case neg =>
    have h2l := ne_bytes' h2
    have h2b : (so.toList == []) = false := by rw [beq_eq_false_iff_ne]; exact h2l
    have h2d : decide (so.toList = []) = false := decide_eq_false h2l
    subst h1
    have HF := Lib.hid (show res = false by rw [HV.out, decide_eq_false h2]; simp)
    go_enter Tryz.func46, Tryz.ntmps46
    go_wp2_with fail
    go_ret
    exact ⟨by rw [HF.out]; rfl, by rw [← HW.out]; exact HB.out⟩
  by_cases h3 : n = 0
  case neg =>
    have h3z : (0 : Int) < n := by omega
    have h3b : decide ((0 : Int) < n) = true := decide_eq_true h3z
    subst h1
    subst h2
    have HF := Lib.hid (show res = false by rw [HV.out, decide_eq_false h3]; simp)
    go_enter Tryz.func46, Tryz.ntmps46
    go_wp2_with fail
    go_ret
    exact ⟨by rw [HF.out]; rfl, by rw [← HW.out]; exact HB.out⟩
  subst h1
  subst h2
  have HRE := Lib.hid (show res = ps.all (partP 2) by rw [HV.out, decide_eq_true ht, decide_eq_true h3]; simp)
  clear HV
  subst h3
  go_enter Tryz.func46, Tryz.ntmps46
  go_wp2_with fail
  rw [← HW.out]
  go_loopw [5] (fun vi wr => FnR 2 ps w1 vi wr) (fun vi _ => l - (intOf vi).toNat)
  case atStart => exact ⟨0, Nat.zero_le _, rfl, Lib.hid (by simp), Below.refl _ _⟩
  case round =>
    obtain ⟨j, hk, rfl, hall, hBB⟩ := hrel
    have HK := Lib.hid hk
    have HBB := Lib.hid hBB
    have HBW := Lib.hid (HB.out.trans (hBB.mono HB.out.size))
    have X3 := Lib.hid (X1.out.later hBB)
    obtain ⟨p0, p1, p2, p3, p4⟩ := X3.out
    clear hk hBB
    by_cases hlt : j < l
    · have hlz : (j : Int) < (l : Int) := by omega
      have hku : j < ps.length := by rw [← HL.out]; exact hlt
      obtain ⟨g, o', a1, c1, b1, d1, hg, hgl, h5, hf⟩ := (HP.out.later HBW.out).get j hku
      obtain ⟨U, hU⟩ : ∃ V, V = ps[j] := ⟨_, rfl⟩
      rw [← hU] at h5 hf
      have HUK := Lib.hid (show ps[j]? = some U by rw [hU]; exact List.getElem?_eq_getElem hku)
      have CI := Lib.hid (fun W h1 => IH.out U (List.mem_of_getElem? HUK.out) a1 c1 b1 d1 W h1)
      have HFU := Lib.hid hf
      have HGL := Lib.hid (show g < wr.heap.size from Nat.lt_of_lt_of_le hgl HBW.out.size)
      have hgw : g < wr.heap.size := HGL.out
      have hbw : w.heap.size < wr.heap.size := X3.out.lt
      subst hg
      obtain ⟨e0, e1, e2, e3, e4⟩ := h5
      rw [Nat.zero_add] at e0 e1 e2 e3 e4
      obtain ⟨un, hun, _⟩ := bs_bytes U.name
      obtain ⟨uo, huo, _⟩ := bs_bytes U.op
      rw [hun] at e1 CI
      rw [huo] at e2 CI
      obtain ⟨uk, huk⟩ : ∃ x, x = U.kind := ⟨_, rfl⟩
      obtain ⟨uv, huv⟩ : ∃ x, x = U.vals.length := ⟨_, rfl⟩
      obtain ⟨up, hup⟩ : ∃ x, x = U.parts.length := ⟨_, rfl⟩
      rw [← huk] at e0 CI
      rw [← huv] at e3 CI
      rw [← hup] at e4 CI
      have HUKD := Lib.hid huk
      have E0 := Lib.hid e0
      clear hU hf hgl hun huo huk huv hup
      have WA := Lib.hid (show ∀ W, Below w.heap.size wr W → FltAt W (Old W.heap.size) U a1 b1 from fun W hW => (HFU.out.later hW).wide (Nat.le_trans HBW.out.size hW.size))
      obtain ⟨fu, hfu⟩ : ∃ x, x = fine U := ⟨_, rfl⟩
      rw [← hfu] at CI
      have HFN := Lib.hid hfu
      clear hfu
      have HPU := Lib.hid (show partP 2 U = (fu && (decide ((2 : Int) = 3) || !decide (uk = 2))) by rw [partP, HFN.out, HUKD.out])
      cases fu
      case false =>
        have HF := Lib.hid (show res = false by rw [HRE.out, List.all_eq_false]; exact ⟨U, List.mem_of_getElem? HUK.out, by rw [HPU.out]; simp⟩)
        go_wp2_with (go_at_call 46; refine Calls.mono (CI.out _ (WA.out _ (Below.refl _ _))) ?_; rintro e w3 ⟨rfl, hb⟩; have HB3 := Lib.hid (HBW.out.trans (hb.mono HBW.out.size)); have X4 := Lib.hid (X3.out.later hb); obtain ⟨x0, x1, x2, x3, x4⟩ := X4.out; have hu3 := (hb.cell (p := ⟨g, o' + j * 5, none⟩) HGL.out).trans E0.out; clear hb)
        go_big_quiet (fail)
        all_goals
          go_wp2_with fail
          go_ret
          exact ⟨by rw [HF.out]; rfl, below_drewN HB3.out _⟩
      by_cases hkk : uk = 2
      case pos =>
        have HF := Lib.hid (show res = false by rw [HRE.out, List.all_eq_false]; exact ⟨U, List.mem_of_getElem? HUK.out, by rw [HPU.out, hkk]; decide⟩)
        subst hkk
        go_wp2_with (go_at_call 46; refine Calls.mono (CI.out _ (WA.out _ (Below.refl _ _))) ?_; rintro e w3 ⟨rfl, hb⟩; have HB3 := Lib.hid (HBW.out.trans (hb.mono HBW.out.size)); have X4 := Lib.hid (X3.out.later hb); obtain ⟨x0, x1, x2, x3, x4⟩ := X4.out; have hu3 := (hb.cell (p := ⟨g, o' + j * 5, none⟩) HGL.out).trans E0.out; clear hb)
        go_big_quiet (fail)
        all_goals
          go_wp2_with fail
          go_ret
          exact ⟨by rw [HF.out]; rfl, below_drewN HB3.out _⟩
      have hkb : (uk == 2) = false := by rw [beq_eq_false_iff_ne]; exact hkk
      have hkd : decide (uk = 2) = false := decide_eq_false hkk
      have HF := Lib.hid (take_more_flt hall.out HUK.out (show partP 2 U = true by rw [HPU.out, hkd]; rfl))
      go_wp2_with (go_at_call 46; refine Calls.mono (CI.out _ (WA.out _ (Below.refl _ _))) ?_; rintro e w3 ⟨rfl, hb⟩; have HB3 := Lib.hid (HBW.out.trans (hb.mono HBW.out.size)); have HB4 := Lib.hid (HBB.out.trans (hb.mono HBB.out.size)); have X4 := Lib.hid (X3.out.later hb); obtain ⟨x0, x1, x2, x3, x4⟩ := X4.out; have hu3 := (hb.cell (p := ⟨g, o' + j * 5, none⟩) HGL.out).trans E0.out; clear hb)
      go_big_quiet (fail)
      all_goals
        go_wp2_with fail
        go_roundw
        case rel => exact ⟨j + 1, by have := HL.out; omega, by go_num, HF, below_drewN HB4.out _⟩
        case measure => simp [intOf]; omega
    · have hlz : ¬ (j : Int) < (l : Int) := by omega
      have HF := Lib.hid (show res = true by
        rw [HRE.out, List.all_eq_true]
        have := hall.out
        rwa [show j = ps.length by have := HL.out; have := HK.out; omega, List.take_length] at this)
      go_wp2_with fail
      go_ret
      exact ⟨by rw [HF.out]; rfl, HBW.out⟩
set_option maxHeartbeats 8000000 in
set_option maxRecDepth 100000 in
theorem fine3 (nm o : List UInt8) (vs : List Att) (ps : List Flt) (ih : ∀ q ∈ ps, FineOk q) : FineOk (.mk 3 nm o vs ps) := by
  obtain ⟨k, hk⟩ : ∃ k : Int, k = 3 := ⟨_, rfl⟩
  obtain ⟨f, hf⟩ : ∃ f : Flt, f = .mk 3 nm o vs ps := ⟨_, rfl⟩
  clear hk k hf f
  intro a c b d w hF
  simp only [Flt.kind, Flt.name, Flt.op, Flt.vals, Flt.parts]
  obtain ⟨sn, en, hsn⟩ := bs_bytes nm
  obtain ⟨so, eo, hso⟩ := bs_bytes o
  rw [en, eo]
  have IH := Lib.hid ih
  have HA := Lib.hid hF.atts
  have HP := Lib.hid hF.parts
  simp only [Flt.vals] at HA
  simp only [Flt.parts] at HP
  have HSN := Lib.hid hsn
  have HSO := Lib.hid hso
  have hlen : ps.length ≤ 9223372036854775807 := by have := hF.small.2.2.2.2; simp only [Flt.parts] at this; unfold maxLen at this; omega
  have hvl : vs.length ≤ 9223372036854775807 := by have := hF.atts.1; simp only [Flt.vals] at this; unfold maxLen at this; omega
  obtain ⟨n, hn⟩ : ∃ n, n = vs.length := ⟨_, rfl⟩
  obtain ⟨l, hl⟩ : ∃ n, n = ps.length := ⟨_, rfl⟩
  have HN := Lib.hid hn
  have HL := Lib.hid hl
  rw [← hn] at hvl
  rw [← hl] at hlen
  have hv0 : fine (.mk 3 nm o vs ps) = (decide (sn = ⟨#[]⟩) && decide (so = ⟨#[]⟩) && decide (n = 0) && decide (l = 1) && ps.all (partP 3)) := by
    have q1 : (nm == []) = decide (sn = ⟨#[]⟩) := by rw [← beq_bytes sn ⟨#[]⟩, Lib.toList_data, Lib.toList_data, hsn]
    have q2 : (o == []) = decide (so = ⟨#[]⟩) := by rw [← beq_bytes so ⟨#[]⟩, Lib.toList_data, Lib.toList_data, hso]
    have q3 : vs.isEmpty = decide (n = 0) := by rw [hn]; cases vs <;> simp
    rw [fine, if_neg (by decide), q1, q2, q3, fineL_all, hl]
    rfl
  obtain ⟨res, hres⟩ : ∃ x, x = fine (.mk 3 nm o vs ps) := ⟨_, rfl⟩
  rw [← hres] at hv0 ⊢
  have HV := Lib.hid hv0
  rw [← hn, ← hl]
  clear ih hF en eo hsn hso hv0 hres hn hl
  obtain ⟨w1, hw1⟩ : ∃ v, v = w.alloc (.cells #[.int .i64 3, .string sn, .string so, .slice a n c, .slice b l d] 27) := ⟨_, rfl⟩
  have X1 := Lib.hid (show Box w1 w.heap.size (.int .i64 3) (.string sn) (.string so) (.slice a n c) (.slice b l d) by rw [hw1]; exact Box.new ..)
  have HB := Lib.hid (show Below w.heap.size w w1 by rw [hw1]; exact (Below.refl _ _).alloc (Nat.le_refl _) _)
  have HW := Lib.hid hw1
  clear hw1
  by_cases ht : l = 1
  case neg =>
    have htz : ¬ (l : Int) = 1 := by omega
    have htb : ((l : Int) == 1) = false := by rw [beq_eq_false_iff_ne]; exact htz
    have HF := Lib.hid (show res = false by rw [HV.out, decide_eq_false ht]; simp)
    go_enter Tryz.func46, Tryz.ntmps46
    go_wp2_with fail
    go_ret
    exact ⟨by rw [HF.out]; rfl, by rw [← HW.out]; exact HB.out⟩
  subst ht
  by_cases h1 : sn = ⟨#[]⟩
  case neg =>
    have h1l := ne_bytes' h1
    have h1b : (sn.toList == []) = false := by rw [beq_eq_false_iff_ne]; exact h1l
    have h1d : decide (sn.toList = []) = false := decide_eq_false h1l
    have HF := Lib.hid (show res = false by rw [HV.out, decide_eq_false h1]; simp)
    go_enter Tryz.func46, Tryz.ntmps46
    go_wp2_with fail
    go_ret
    exact ⟨by rw [HF.out]; rfl, by rw [← HW.out]; exact HB.out⟩
  by_cases h2 : so = ⟨#[]⟩
  case neg =>
    have h2l := ne_bytes' h2
    have h2b : (so.toList == []) = false := by rw [beq_eq_false_iff_ne]; exact h2l
    have h2d : decide (so.toList = []) = false := decide_eq_false h2l
    subst h1
    have HF := Lib.hid (show res = false by rw [HV.out, decide_eq_false h2]; simp)
    go_enter Tryz.func46, Tryz.ntmps46
    go_wp2_with fail
    go_ret
    exact ⟨by rw [HF.out]; rfl, by rw [← HW.out]; exact HB.out⟩
  by_cases h3 : n = 0
  case neg =>
    have h3z : (0 : Int) < n := by omega
    have h3b : decide ((0 : Int) < n) = true := decide_eq_true h3z
    subst h1
    subst h2
    have HF := Lib.hid (show res = false by rw [HV.out, decide_eq_false h3]; simp)
    go_enter Tryz.func46, Tryz.ntmps46
    go_wp2_with fail
    go_ret
    exact ⟨by rw [HF.out]; rfl, by rw [← HW.out]; exact HB.out⟩
  subst h1
  subst h2
  have HRE := Lib.hid (show res = ps.all (partP 3) by rw [HV.out, decide_eq_true h3]; simp)
  clear HV
  subst h3
  go_enter Tryz.func46, Tryz.ntmps46
  go_wp2_with fail
  rw [← HW.out]
  go_loopw [5] (fun vi wr => FnR 3 ps w1 vi wr) (fun vi _ => 1 - (intOf vi).toNat)
  case atStart => exact ⟨0, Nat.zero_le _, rfl, Lib.hid (by simp), Below.refl _ _⟩
  case round =>
    obtain ⟨j, hk, rfl, hall, hBB⟩ := hrel
    have HK := Lib.hid hk
    have HBB := Lib.hid hBB
    have HBW := Lib.hid (HB.out.trans (hBB.mono HB.out.size))
    have X3 := Lib.hid (X1.out.later hBB)
    obtain ⟨p0, p1, p2, p3, p4⟩ := X3.out
    clear hk hBB
    by_cases hlt : j < 1
    · have hlz : (j : Int) < (1 : Int) := by omega
      have hku : j < ps.length := by rw [← HL.out]; exact hlt
      obtain ⟨g, o', a1, c1, b1, d1, hg, hgl, h5, hf⟩ := (HP.out.later HBW.out).get j hku
      obtain ⟨U, hU⟩ : ∃ V, V = ps[j] := ⟨_, rfl⟩
      rw [← hU] at h5 hf
      have HUK := Lib.hid (show ps[j]? = some U by rw [hU]; exact List.getElem?_eq_getElem hku)
      have CI := Lib.hid (fun W h1 => IH.out U (List.mem_of_getElem? HUK.out) a1 c1 b1 d1 W h1)
      have HFU := Lib.hid hf
      have HGL := Lib.hid (show g < wr.heap.size from Nat.lt_of_lt_of_le hgl HBW.out.size)
      have hgw : g < wr.heap.size := HGL.out
      have hbw : w.heap.size < wr.heap.size := X3.out.lt
      subst hg
      obtain ⟨e0, e1, e2, e3, e4⟩ := h5
      rw [Nat.zero_add] at e0 e1 e2 e3 e4
      obtain ⟨un, hun, _⟩ := bs_bytes U.name
      obtain ⟨uo, huo, _⟩ := bs_bytes U.op
      rw [hun] at e1 CI
      rw [huo] at e2 CI
      obtain ⟨uk, huk⟩ : ∃ x, x = U.kind := ⟨_, rfl⟩
      obtain ⟨uv, huv⟩ : ∃ x, x = U.vals.length := ⟨_, rfl⟩
      obtain ⟨up, hup⟩ : ∃ x, x = U.parts.length := ⟨_, rfl⟩
      rw [← huk] at e0 CI
      rw [← huv] at e3 CI
      rw [← hup] at e4 CI
      have HUKD := Lib.hid huk
      have E0 := Lib.hid e0
      clear hU hf hgl hun huo huk huv hup
      have WA := Lib.hid (show ∀ W, Below w.heap.size wr W → FltAt W (Old W.heap.size) U a1 b1 from fun W hW => (HFU.out.later hW).wide (Nat.le_trans HBW.out.size hW.size))
      obtain ⟨fu, hfu⟩ : ∃ x, x = fine U := ⟨_, rfl⟩
      rw [← hfu] at CI
      have HFN := Lib.hid hfu
      clear hfu
      have HPU := Lib.hid (show partP 3 U = (fu && (decide ((3 : Int) = 3) || !decide (uk = 3))) by rw [partP, HFN.out, HUKD.out])
      cases fu
      case false =>
        have HF := Lib.hid (show res = false by rw [HRE.out, List.all_eq_false]; exact ⟨U, List.mem_of_getElem? HUK.out, by rw [HPU.out]; simp⟩)
        go_wp2_with (go_at_call 46; refine Calls.mono (CI.out _ (WA.out _ (Below.refl _ _))) ?_; rintro e w3 ⟨rfl, hb⟩; have HB3 := Lib.hid (HBW.out.trans (hb.mono HBW.out.size)); have X4 := Lib.hid (X3.out.later hb); obtain ⟨x0, x1, x2, x3, x4⟩ := X4.out; have hu3 := (hb.cell (p := ⟨g, o' + j * 5, none⟩) HGL.out).trans E0.out; clear hb)
        go_big_quiet (fail)
        all_goals
          go_wp2_with fail
          go_ret
          exact ⟨by rw [HF.out]; rfl, below_drewN HB3.out _⟩
      have HF := Lib.hid (take_more_flt hall.out HUK.out (show partP 3 U = true by rw [HPU.out]; rfl))
      go_wp2_with (go_at_call 46; refine Calls.mono (CI.out _ (WA.out _ (Below.refl _ _))) ?_; rintro e w3 ⟨rfl, hb⟩; have HB3 := Lib.hid (HBW.out.trans (hb.mono HBW.out.size)); have HB4 := Lib.hid (HBB.out.trans (hb.mono HBB.out.size)); have X4 := Lib.hid (X3.out.later hb); obtain ⟨x0, x1, x2, x3, x4⟩ := X4.out; have hu3 := (hb.cell (p := ⟨g, o' + j * 5, none⟩) HGL.out).trans E0.out; clear hb)
      go_big_quiet (fail)
      all_goals
        go_wp2_with fail
        go_roundw
        case rel => exact ⟨j + 1, by have := HL.out; omega, by go_num, HF, below_drewN HB4.out _⟩
        case measure => simp [intOf]; omega
    · have hlz : ¬ (j : Int) < (1 : Int) := by omega
      have HF := Lib.hid (show res = true by
        rw [HRE.out, List.all_eq_true]
        have := hall.out
        rwa [show j = ps.length by have := HL.out; have := HK.out; omega, List.take_length] at this)
      go_wp2_with fail
      go_ret
      exact ⟨by rw [HF.out]; rfl, HBW.out⟩
set_option maxHeartbeats 8000000 in
set_option maxRecDepth 100000 in
theorem refFine_ok (f : Flt) (ih : ∀ q ∈ f.parts, FineOk q) : FineOk f := by
  obtain ⟨k, nm, o, vs, ps⟩ := f
  simp only [Flt.parts] at ih
  by_cases h1 : k = 1
  · subst h1; exact fine1 nm o vs ps ih
  by_cases h2 : k = 2
  · subst h2; exact fine2 nm o vs ps ih
  by_cases h3 : k = 3
  · subst h3; exact fine3 nm o vs ps ih
  intro a c b d w hF
  simp only [Flt.kind, Flt.name, Flt.op, Flt.vals, Flt.parts]
  obtain ⟨sn, en, hsn⟩ := bs_bytes nm
  obtain ⟨so, eo, hso⟩ := bs_bytes o
  rw [en, eo]
  have IH := Lib.hid ih
  have HA := Lib.hid hF.atts
  have HP := Lib.hid hF.parts
  simp only [Flt.vals] at HA
  simp only [Flt.parts] at HP
  have HSN := Lib.hid hsn
  have HSO := Lib.hid hso
  have CL := Lib.hid (fun W h => refLeaf_any k sn so vs a c ps.length b d W h)
  rw [hsn, hso] at CL
  have hlen : ps.length ≤ 9223372036854775807 := by have := hF.small.2.2.2.2; simp only [Flt.parts] at this; unfold maxLen at this; omega
  have hvl : vs.length ≤ 9223372036854775807 := by have := hF.atts.1; simp only [Flt.vals] at this; unfold maxLen at this; omega
  obtain ⟨n, hn⟩ : ∃ n, n = vs.length := ⟨_, rfl⟩
  obtain ⟨l, hl⟩ : ∃ n, n = ps.length := ⟨_, rfl⟩
  have HN := Lib.hid hn
  have HL := Lib.hid hl
  rw [← hn] at hvl
  rw [← hl] at hlen
  by_cases h456 : k = 4 ∨ k = 5 ∨ k = 6
  · have hv0 : fine (.mk k nm o vs ps) = (leafB k nm o vs && decide (ps.length = 0)) := by
      rw [fine, if_pos h456]
      cases ps <;> simp
    obtain ⟨res, hres⟩ : ∃ x, x = fine (.mk k nm o vs ps) := ⟨_, rfl⟩
    rw [← hres] at hv0 ⊢
    rw [← hv0] at CL
    rw [← hn, ← hl] at CL
    rw [← hn, ← hl]
    clear ih hF en eo hsn hso hv0 hres hn hl
    obtain ⟨w1, hw1⟩ : ∃ v, v = w.alloc (.cells #[.int .i64 k, .string sn, .string so, .slice a n c, .slice b l d] 27) := ⟨_, rfl⟩
    have X1 := Lib.hid (show Box w1 w.heap.size (.int .i64 k) (.string sn) (.string so) (.slice a n c) (.slice b l d) by rw [hw1]; exact Box.new ..)
    have HB := Lib.hid (show Below w.heap.size w w1 by rw [hw1]; exact (Below.refl _ _).alloc (Nat.le_refl _) _)
    have HW := Lib.hid hw1
    clear hw1
    rcases h456 with rfl | rfl | rfl
    all_goals
      go_enter Tryz.func46, Tryz.ntmps46
      go_wp2_with (go_at_call 59; rw [← HW.out]; refine Calls.mono (CL.out _ (HA.out.fit HB.out)) ?_; rintro e w2 ⟨rfl, hb⟩; have HB2 := Lib.hid (HB.out.trans (hb.mono HB.out.size)); clear hb)
      go_ret
      exact ⟨rfl, HB2.out⟩
  have h4 : ¬ k = 4 := by omega
  have h5 : ¬ k = 5 := by omega
  have h6 : ¬ k = 6 := by omega
  clear CL
  have hv0 : fine (.mk k nm o vs ps) = (decide (sn = ⟨#[]⟩) && decide (so = ⟨#[]⟩) && decide (n = 0) && (decide (k = 7) && decide (l = 0))) := by
    have q1 : (nm == []) = decide (sn = ⟨#[]⟩) := by rw [← beq_bytes sn ⟨#[]⟩, Lib.toList_data, Lib.toList_data, hsn]
    have q2 : (o == []) = decide (so = ⟨#[]⟩) := by rw [← beq_bytes so ⟨#[]⟩, Lib.toList_data, Lib.toList_data, hso]
    have q3 : vs.isEmpty = decide (n = 0) := by rw [hn]; cases vs <;> simp
    have q4 : ps.isEmpty = decide (l = 0) := by rw [hl]; cases ps <;> simp
    rw [fine, if_neg h456, if_neg (by omega), if_neg h3, q1, q2, q3, q4]
    cases ps with
    | nil => simp [fineL]
    | cons p r => simp [hl]
  obtain ⟨res, hres⟩ : ∃ x, x = fine (.mk k nm o vs ps) := ⟨_, rfl⟩
  rw [← hres] at hv0 ⊢
  have HV := Lib.hid hv0
  rw [← hn, ← hl]
  clear ih hF en eo hsn hso hv0 hres hn hl h456
  obtain ⟨w1, hw1⟩ : ∃ v, v = w.alloc (.cells #[.int .i64 k, .string sn, .string so, .slice a n c, .slice b l d] 27) := ⟨_, rfl⟩
  have X1 := Lib.hid (show Box w1 w.heap.size (.int .i64 k) (.string sn) (.string so) (.slice a n c) (.slice b l d) by rw [hw1]; exact Box.new ..)
  have HB := Lib.hid (show Below w.heap.size w w1 by rw [hw1]; exact (Below.refl _ _).alloc (Nat.le_refl _) _)
  have HW := Lib.hid hw1
  clear hw1
  by_cases h7 : k = 7
  case neg =>
    have h1b : (k == 1) = false := by rw [beq_eq_false_iff_ne]; exact h1
    have h2b : (k == 2) = false := by rw [beq_eq_false_iff_ne]; exact h2
    have h3b : (k == 3) = false := by rw [beq_eq_false_iff_ne]; exact h3
    have h7b : (k == 7) = false := by rw [beq_eq_false_iff_ne]; exact h7
    have h4b : (k == 4) = false := by rw [beq_eq_false_iff_ne]; exact h4
    have h5b : (k == 5) = false := by rw [beq_eq_false_iff_ne]; exact h5
    have h6b : (k == 6) = false := by rw [beq_eq_false_iff_ne]; exact h6
    have HF := Lib.hid (show res = false by rw [HV.out, decide_eq_false h7]; simp)
    go_enter Tryz.func46, Tryz.ntmps46
    go_wp2_with fail
    go_ret
    exact ⟨by rw [HF.out]; rfl, by rw [← HW.out]; exact HB.out⟩
  subst h7
  by_cases hl0 : l = 0
  case neg =>
    have hlz : ¬ (l : Int) = 0 := by omega
    have hlb : ((l : Int) == 0) = false := by rw [beq_eq_false_iff_ne]; exact hlz
    have HF := Lib.hid (show res = false by rw [HV.out, decide_eq_false hl0]; simp)
    go_enter Tryz.func46, Tryz.ntmps46
    go_wp2_with fail
    go_ret
    exact ⟨by rw [HF.out]; rfl, by rw [← HW.out]; exact HB.out⟩
  by_cases g1 : sn = ⟨#[]⟩
  case neg =>
    have h1l := ne_bytes' g1
    have h1b : (sn.toList == []) = false := by rw [beq_eq_false_iff_ne]; exact h1l
    have h1d : decide (sn.toList = []) = false := decide_eq_false h1l
    have HV2 := Lib.hid (show res = false by rw [HV.out, decide_eq_false g1]; simp)
    clear HL HP IH HV
    subst hl0
    have HF := Lib.hid (show res = false by rw [HV2.out])
    go_enter Tryz.func46, Tryz.ntmps46
    go_wp2_with fail
    go_ret
    exact ⟨by rw [HF.out]; rfl, by rw [← HW.out]; exact HB.out⟩
  by_cases g2 : so = ⟨#[]⟩
  case neg =>
    have h2l := ne_bytes' g2
    have h2b : (so.toList == []) = false := by rw [beq_eq_false_iff_ne]; exact h2l
    have h2d : decide (so.toList = []) = false := decide_eq_false h2l
    have HV2 := Lib.hid (show res = false by rw [HV.out, decide_eq_false g2]; simp)
    clear HL HP IH HV
    subst hl0
    subst g1
    have HF := Lib.hid (show res = false by rw [HV2.out])
    go_enter Tryz.func46, Tryz.ntmps46
    go_wp2_with fail
    go_ret
    exact ⟨by rw [HF.out]; rfl, by rw [← HW.out]; exact HB.out⟩
  by_cases g3 : n = 0
  case neg =>
    have h3z : (0 : Int) < n := by omega
    have h3b : decide ((0 : Int) < n) = true := decide_eq_true h3z
    have HV2 := Lib.hid (show res = false by rw [HV.out, decide_eq_false g3]; simp)
    clear HL HP IH HV
    subst hl0
    subst g1
    subst g2
    have HF := Lib.hid (show res = false by rw [HV2.out])
    go_enter Tryz.func46, Tryz.ntmps46
    go_wp2_with fail
    go_ret
    exact ⟨by rw [HF.out]; rfl, by rw [← HW.out]; exact HB.out⟩
  have HF := Lib.hid (show res = true by rw [HV.out, decide_eq_true g1, decide_eq_true g2, decide_eq_true g3, decide_eq_true hl0]; rfl)
  clear HL HN HP HA IH HV
  subst hl0
  subst g1
  subst g2
  subst g3
  go_enter Tryz.func46, Tryz.ntmps46
  go_wp2_with fail
  rw [← HW.out]
  go_loopw [5] (fun vi wr => vi = .int .i64 0 ∧ w1 = wr) (fun vi _ => 0)
  case atStart => exact ⟨rfl, rfl⟩
  case round =>
    obtain ⟨rfl, rfl⟩ := hrel
    obtain ⟨p0, p1, p2, p3, p4⟩ := X1.out
    go_wp2_with fail
    go_ret
    exact ⟨by rw [HF.out]; rfl, HB.out⟩
theorem refFine_all : ∀ (N : Nat) (f : Flt), sz f ≤ N → FineOk f
  | 0, f, h => by have := sz_pos f; omega
  | N + 1, f, h => refFine_ok f fun q hq => refFine_all N q (by
      cases f
      simp only [Flt.parts] at hq
      have := sz_mem hq
      rw [sz] at h
      omega)
end Go.Proofs.YtmfkpoojfpepaaaGreatDoor.Fl
namespace Go.Proofs.YtmfkpoojfpepaaaGreatDoor.Fl
open Go.RowKit Go.Proofs.YtmfkpoojfpepaaaGreatDoor.Tk
set_option linter.unusedVariables false
set_option linter.unusedSimpArgs false

def DeepOk (f : Flt) : Prop := ∀ (a : Option Addr) (c : Nat) (b : Option Addr) (d : Nat) (w : World), FltAt w (Old w.heap.size) f a b → sz f ≤ 5000 →
  Calls Tryz.prog 47 #[.agg #[.int .i64 f.kind, bs f.name, bs f.op, .slice a f.vals.length c, .slice b f.parts.length d]] w fun e w' => e = .returned (.int .i64 (dep f : Nat)) ∧ Below w.heap.size w w'
def NodesOk (f : Flt) : Prop := ∀ (a : Option Addr) (c : Nat) (b : Option Addr) (d : Nat) (w : World), FltAt w (Old w.heap.size) f a b → sz f ≤ 5000 →
  Calls Tryz.prog 48 #[.agg #[.int .i64 f.kind, bs f.name, bs f.op, .slice a f.vals.length c, .slice b f.parts.length d]] w fun e w' => e = .returned (.int .i64 (sz f : Nat)) ∧ Below w.heap.size w w'
mutual
theorem dep_sz : ∀ f : Flt, dep f ≤ sz f
  | .mk _ _ _ _ l => by have := depL_szL l; rw [dep, sz]; omega
theorem depL_szL : ∀ l : List Flt, depL l ≤ szL l
  | [] => by rw [depL, szL]; omega
  | p :: r => by have := dep_sz p; have := depL_szL r; rw [depL, szL]; omega
end
def DpR (ps : List Flt) (w : World) (vn vi : Value) (wr : World) : Prop :=
  ∃ j : Nat, j ≤ ps.length ∧ vi = .int .i64 j ∧ vn = .int .i64 (depL (ps.take j) : Nat) ∧ Below w.heap.size w wr
def NdR (ps : List Flt) (w : World) (vn vi : Value) (wr : World) : Prop :=
  ∃ j : Nat, j ≤ ps.length ∧ vi = .int .i64 j ∧ vn = .int .i64 (1 + szL (ps.take j) : Nat) ∧ Below w.heap.size w wr
theorem depL_step {j : Nat} {ps : List Flt} {q : Flt} (hq : ps[j]? = some q) : depL (ps.take (j + 1)) = max (depL (ps.take j)) (dep q) := by
  rw [List.take_add_one, hq, depL_app]
  simp [depL]
theorem szL_take : ∀ (ps : List Flt) (j : Nat), szL (ps.take j) ≤ szL ps
  | [], j => by simp
  | p :: r, 0 => by simp [szL]
  | p :: r, j + 1 => by have := szL_take r j; rw [List.take_succ_cons, szL, szL]; omega
theorem depL_take (ps : List Flt) (j : Nat) : depL (ps.take j) ≤ szL ps := Nat.le_trans (depL_szL _) (szL_take ps j)
theorem szL_one {ps : List Flt} {q : Flt} {j : Nat} (h : ps[j]? = some q) : sz q ≤ szL ps := sz_mem (List.mem_of_getElem? h)
set_option maxHeartbeats 4000000 in
set_option maxRecDepth 100000 in
theorem deep_ok (f : Flt) (ih : ∀ q ∈ f.parts, DeepOk q) : DeepOk f := by
  obtain ⟨k, nm, o, vs, ps⟩ := f
  intro a c b d w hF h5k
  simp only [Flt.kind, Flt.name, Flt.op, Flt.vals, Flt.parts] at ih ⊢
  obtain ⟨sn, en, hsn⟩ := bs_bytes nm
  obtain ⟨so, eo, hso⟩ := bs_bytes o
  rw [en, eo]
  have IH := Lib.hid ih
  have HA := Lib.hid hF.atts
  have HP := Lib.hid hF.parts
  simp only [Flt.vals] at HA
  simp only [Flt.parts] at HP
  have HSN := Lib.hid hsn
  have HSO := Lib.hid hso
  have hlen : ps.length ≤ 9223372036854775807 := by have := hF.small.2.2.2.2; simp only [Flt.parts] at this; unfold maxLen at this; omega
  have hvl : vs.length ≤ 9223372036854775807 := by have := hF.atts.1; simp only [Flt.vals] at this; unfold maxLen at this; omega
  obtain ⟨n, hn⟩ : ∃ n, n = vs.length := ⟨_, rfl⟩
  obtain ⟨l, hl⟩ : ∃ n, n = ps.length := ⟨_, rfl⟩
  have HN := Lib.hid hn
  have HL := Lib.hid hl
  rw [← hn] at hvl
  rw [← hl] at hlen
  have HSZ := Lib.hid (show szL ps ≤ 4999 by rw [sz] at h5k; omega)
  obtain ⟨res, hres⟩ : ∃ x, x = dep (.mk k nm o vs ps) := ⟨_, rfl⟩
  have HR := Lib.hid (show res = depL ps + 1 by rw [hres, dep])
  rw [← hres]
  rw [← hn, ← hl]
  clear ih hF en eo hsn hso hres hn hl h5k
  obtain ⟨w1, hw1⟩ : ∃ v, v = w.alloc (.cells #[.int .i64 k, .string sn, .string so, .slice a n c, .slice b l d] 27) := ⟨_, rfl⟩
  have X1 := Lib.hid (show Box w1 w.heap.size (.int .i64 k) (.string sn) (.string so) (.slice a n c) (.slice b l d) by rw [hw1]; exact Box.new ..)
  have HB := Lib.hid (show Below w.heap.size w w1 by rw [hw1]; exact (Below.refl _ _).alloc (Nat.le_refl _) _)
  have HW := Lib.hid hw1
  clear hw1
  go_enter Tryz.func47, Tryz.ntmps47
  go_wp2_with fail
  rw [← HW.out]
  go_loopw [3, 4] (fun vn vi wr => DpR ps w1 vn vi wr) (fun _ vi _ => l - (intOf vi).toNat)
  case atStart => exact ⟨0, Nat.zero_le _, rfl, rfl, Below.refl _ _⟩
  case round =>
    obtain ⟨j, hk, rfl, rfl, hBB⟩ := hrel
    have HK := Lib.hid hk
    have HBB := Lib.hid hBB
    have HBW := Lib.hid (HB.out.trans (hBB.mono HB.out.size))
    have X3 := Lib.hid (X1.out.later hBB)
    obtain ⟨p0, p1, p2, p3, p4⟩ := X3.out
    clear hk hBB
    by_cases hlt : j < l
    · have hlz : (j : Int) < (l : Int) := by omega
      have hku : j < ps.length := by rw [← HL.out]; exact hlt
      obtain ⟨g, o', a1, c1, b1, d1, hg, hgl, h5, hf⟩ := (HP.out.later HBW.out).get j hku
      obtain ⟨U, hU⟩ : ∃ V, V = ps[j] := ⟨_, rfl⟩
      rw [← hU] at h5 hf
      have HUK := Lib.hid (show ps[j]? = some U by rw [hU]; exact List.getElem?_eq_getElem hku)
      have CI := Lib.hid (fun W h1 h2 => IH.out U (List.mem_of_getElem? HUK.out) a1 c1 b1 d1 W h1 h2)
      have HFU := Lib.hid hf
      have HGL := Lib.hid (show g < wr.heap.size from Nat.lt_of_lt_of_le hgl HBW.out.size)
      have hgw : g < wr.heap.size := HGL.out
      have hbw : w.heap.size < wr.heap.size := X3.out.lt
      subst hg
      obtain ⟨e0, e1, e2, e3, e4⟩ := h5
      rw [Nat.zero_add] at e0 e1 e2 e3 e4
      obtain ⟨un, hun, _⟩ := bs_bytes U.name
      obtain ⟨uo, huo, _⟩ := bs_bytes U.op
      rw [hun] at e1 CI
      rw [huo] at e2 CI
      obtain ⟨uk, huk⟩ : ∃ x, x = U.kind := ⟨_, rfl⟩
      obtain ⟨uv, huv⟩ : ∃ x, x = U.vals.length := ⟨_, rfl⟩
      obtain ⟨up, hup⟩ : ∃ x, x = U.parts.length := ⟨_, rfl⟩
      rw [← huk] at e0 CI
      rw [← huv] at e3 CI
      rw [← hup] at e4 CI
      have HUKD := Lib.hid huk
      have E0 := Lib.hid e0
      clear hU hf hgl hun huo huk huv hup
      have WA := Lib.hid (show ∀ W, Below w.heap.size wr W → FltAt W (Old W.heap.size) U a1 b1 from fun W hW => (HFU.out.later hW).wide (Nat.le_trans HBW.out.size hW.size))
      have HU5 := Lib.hid (show sz U ≤ 5000 by have := szL_one HUK.out; have := HSZ.out; omega)
      obtain ⟨x, hx⟩ : ∃ x, x = dep U := ⟨_, rfl⟩
      obtain ⟨y, hy⟩ : ∃ y, y = depL (ps.take j) := ⟨_, rfl⟩
      have HX := Lib.hid hx
      have HY := Lib.hid (show max y x = depL (ps.take (j + 1)) by rw [depL_step HUK.out, hx, hy])
      rw [← hy]
      clear hx hy
      by_cases hxy : y < x
      · have hxz : (y : Int) < (x : Int) := by omega
        have HM := Lib.hid (show x = depL (ps.take (j + 1)) by rw [← HY.out]; omega)
        go_wp2_with (go_at_call 47; refine Calls.mono (CI.out _ (WA.out _ (Below.refl _ _)) HU5.out) ?_; rintro e w3 ⟨rfl, hb⟩; rw [← HX.out]; have HB3 := Lib.hid (HBW.out.trans (hb.mono HBW.out.size)); have HB4 := Lib.hid (HBB.out.trans (hb.mono HBB.out.size)); clear hb)
        go_roundw
        case rel => exact ⟨j + 1, by have := HL.out; omega, by go_num, by rw [← HM.out], HB4.out⟩
        case measure => simp [intOf]; omega
      · have hxz : ¬ (y : Int) < (x : Int) := by omega
        have HM := Lib.hid (show y = depL (ps.take (j + 1)) by rw [← HY.out]; omega)
        go_wp2_with (go_at_call 47; refine Calls.mono (CI.out _ (WA.out _ (Below.refl _ _)) HU5.out) ?_; rintro e w3 ⟨rfl, hb⟩; rw [← HX.out]; have HB3 := Lib.hid (HBW.out.trans (hb.mono HBW.out.size)); have HB4 := Lib.hid (HBB.out.trans (hb.mono HBB.out.size)); clear hb)
        go_roundw
        case rel => exact ⟨j + 1, by have := HL.out; omega, by go_num, by rw [← HM.out], HB4.out⟩
        case measure => simp [intOf]; omega
    · have hlz : ¬ (j : Int) < (l : Int) := by omega
      have hy5 : depL (ps.take j) ≤ 4999 := Nat.le_trans (depL_take _ _) HSZ.out
      have HF := Lib.hid (show depL (ps.take j) + 1 = res by rw [HR.out, show j = ps.length by have := HL.out; have := HK.out; omega, List.take_length])
      obtain ⟨y, hy⟩ : ∃ y, y = depL (ps.take j) := ⟨_, rfl⟩
      rw [← hy] at HF hy5 ⊢
      clear hy
      go_wp2_with fail
      go_ret
      exact ⟨by rw [← HF.out]; first | rfl | (simp), HBW.out⟩
theorem deep_all : ∀ (N : Nat) (f : Flt), sz f ≤ N → DeepOk f
  | 0, f, h => by have := sz_pos f; omega
  | N + 1, f, h => deep_ok f fun q hq => deep_all N q (by
      cases f
      simp only [Flt.parts] at hq
      have := sz_mem hq
      rw [sz] at h
      omega)
set_option maxHeartbeats 4000000 in
set_option maxRecDepth 100000 in
theorem nodes_ok (f : Flt) (ih : ∀ q ∈ f.parts, NodesOk q) : NodesOk f := by
  obtain ⟨k, nm, o, vs, ps⟩ := f
  intro a c b d w hF h5k
  simp only [Flt.kind, Flt.name, Flt.op, Flt.vals, Flt.parts] at ih ⊢
  obtain ⟨sn, en, hsn⟩ := bs_bytes nm
  obtain ⟨so, eo, hso⟩ := bs_bytes o
  rw [en, eo]
  have IH := Lib.hid ih
  have HA := Lib.hid hF.atts
  have HP := Lib.hid hF.parts
  simp only [Flt.vals] at HA
  simp only [Flt.parts] at HP
  have HSN := Lib.hid hsn
  have HSO := Lib.hid hso
  have hlen : ps.length ≤ 9223372036854775807 := by have := hF.small.2.2.2.2; simp only [Flt.parts] at this; unfold maxLen at this; omega
  have hvl : vs.length ≤ 9223372036854775807 := by have := hF.atts.1; simp only [Flt.vals] at this; unfold maxLen at this; omega
  obtain ⟨n, hn⟩ : ∃ n, n = vs.length := ⟨_, rfl⟩
  obtain ⟨l, hl⟩ : ∃ n, n = ps.length := ⟨_, rfl⟩
  have HN := Lib.hid hn
  have HL := Lib.hid hl
  rw [← hn] at hvl
  rw [← hl] at hlen
  have HSZ := Lib.hid (show szL ps ≤ 4999 by rw [sz] at h5k; omega)
  obtain ⟨res, hres⟩ : ∃ x, x = sz (.mk k nm o vs ps) := ⟨_, rfl⟩
  have HR := Lib.hid (show res = szL ps + 1 by rw [hres, sz])
  rw [← hres]
  rw [← hn, ← hl]
  clear ih hF en eo hsn hso hres hn hl h5k
  obtain ⟨w1, hw1⟩ : ∃ v, v = w.alloc (.cells #[.int .i64 k, .string sn, .string so, .slice a n c, .slice b l d] 27) := ⟨_, rfl⟩
  have X1 := Lib.hid (show Box w1 w.heap.size (.int .i64 k) (.string sn) (.string so) (.slice a n c) (.slice b l d) by rw [hw1]; exact Box.new ..)
  have HB := Lib.hid (show Below w.heap.size w w1 by rw [hw1]; exact (Below.refl _ _).alloc (Nat.le_refl _) _)
  have HW := Lib.hid hw1
  clear hw1
  go_enter Tryz.func48, Tryz.ntmps48
  go_wp2_with fail
  rw [← HW.out]
  go_loopw [3, 4] (fun vn vi wr => NdR ps w1 vn vi wr) (fun _ vi _ => l - (intOf vi).toNat)
  case atStart => exact ⟨0, Nat.zero_le _, rfl, rfl, Below.refl _ _⟩
  case round =>
    obtain ⟨j, hk, rfl, rfl, hBB⟩ := hrel
    have HK := Lib.hid hk
    have HBB := Lib.hid hBB
    have HBW := Lib.hid (HB.out.trans (hBB.mono HB.out.size))
    have X3 := Lib.hid (X1.out.later hBB)
    obtain ⟨p0, p1, p2, p3, p4⟩ := X3.out
    clear hk hBB
    by_cases hlt : j < l
    · have hlz : (j : Int) < (l : Int) := by omega
      have hku : j < ps.length := by rw [← HL.out]; exact hlt
      obtain ⟨g, o', a1, c1, b1, d1, hg, hgl, h5, hf⟩ := (HP.out.later HBW.out).get j hku
      obtain ⟨U, hU⟩ : ∃ V, V = ps[j] := ⟨_, rfl⟩
      rw [← hU] at h5 hf
      have HUK := Lib.hid (show ps[j]? = some U by rw [hU]; exact List.getElem?_eq_getElem hku)
      have CI := Lib.hid (fun W h1 h2 => IH.out U (List.mem_of_getElem? HUK.out) a1 c1 b1 d1 W h1 h2)
      have HFU := Lib.hid hf
      have HGL := Lib.hid (show g < wr.heap.size from Nat.lt_of_lt_of_le hgl HBW.out.size)
      have hgw : g < wr.heap.size := HGL.out
      have hbw : w.heap.size < wr.heap.size := X3.out.lt
      subst hg
      obtain ⟨e0, e1, e2, e3, e4⟩ := h5
      rw [Nat.zero_add] at e0 e1 e2 e3 e4
      obtain ⟨un, hun, _⟩ := bs_bytes U.name
      obtain ⟨uo, huo, _⟩ := bs_bytes U.op
      rw [hun] at e1 CI
      rw [huo] at e2 CI
      obtain ⟨uk, huk⟩ : ∃ x, x = U.kind := ⟨_, rfl⟩
      obtain ⟨uv, huv⟩ : ∃ x, x = U.vals.length := ⟨_, rfl⟩
      obtain ⟨up, hup⟩ : ∃ x, x = U.parts.length := ⟨_, rfl⟩
      rw [← huk] at e0 CI
      rw [← huv] at e3 CI
      rw [← hup] at e4 CI
      have HUKD := Lib.hid huk
      have E0 := Lib.hid e0
      clear hU hf hgl hun huo huk huv hup
      have WA := Lib.hid (show ∀ W, Below w.heap.size wr W → FltAt W (Old W.heap.size) U a1 b1 from fun W hW => (HFU.out.later hW).wide (Nat.le_trans HBW.out.size hW.size))
      have HU5 := Lib.hid (show sz U ≤ 5000 by have := szL_one HUK.out; have := HSZ.out; omega)
      obtain ⟨x, hx⟩ : ∃ x, x = sz U := ⟨_, rfl⟩
      obtain ⟨y, hy⟩ : ∃ y, y = szL (ps.take j) := ⟨_, rfl⟩
      have HX := Lib.hid hx
      have HM := Lib.hid (show 1 + y + x = 1 + szL (ps.take (j + 1)) by rw [szL_step HUK.out, hx, hy]; omega)
      have hx5 : x ≤ 5000 := by rw [hx]; exact HU5.out
      have hy5 : y ≤ 5000 := by rw [hy]; have := szL_take ps j; have := HSZ.out; omega
      rw [← hy]
      clear hx hy
      go_wp2_with (go_at_call 48; refine Calls.mono (CI.out _ (WA.out _ (Below.refl _ _)) HU5.out) ?_; rintro e w3 ⟨rfl, hb⟩; rw [← HX.out]; have HB3 := Lib.hid (HBW.out.trans (hb.mono HBW.out.size)); have HB4 := Lib.hid (HBB.out.trans (hb.mono HBB.out.size)); clear hb)
      go_roundw
      case rel => exact ⟨j + 1, by have := HL.out; omega, by go_num, by rw [← HM.out]; go_num, HB4.out⟩
      case measure => simp [intOf]; omega
    · have hlz : ¬ (j : Int) < (l : Int) := by omega
      have HF := Lib.hid (show 1 + szL (ps.take j) = res by rw [HR.out, show j = ps.length by have := HL.out; have := HK.out; omega, List.take_length]; omega)
      obtain ⟨y, hy⟩ : ∃ y, y = 1 + szL (ps.take j) := ⟨_, rfl⟩
      rw [← hy] at HF ⊢
      clear hy
      go_wp2_with fail
      go_ret
      exact ⟨by rw [← HF.out]; first | rfl | (simp), HBW.out⟩
theorem nodes_all : ∀ (N : Nat) (f : Flt), sz f ≤ N → NodesOk f
  | 0, f, h => by have := sz_pos f; omega
  | N + 1, f, h => nodes_ok f fun q hq => nodes_all N q (by
      cases f
      simp only [Flt.parts] at hq
      have := sz_mem hq
      rw [sz] at h
      omega)
set_option maxHeartbeats 4000000 in
set_option maxRecDepth 100000 in
theorem refMay_any (f : Flt) (a : Option Addr) (c : Nat) (b : Option Addr) (d : Nat) (w : World) (hF : FltAt w (Old w.heap.size) f a b) (h5 : fine f = true → sz f ≤ 5000) :
    Calls Tryz.prog 28 #[.agg #[.int .i64 f.kind, bs f.name, bs f.op, .slice a f.vals.length c, .slice b f.parts.length d]] w fun e w' => e = .returned (.bool (mayB f 10 60)) ∧ Below w.heap.size w w' := by
  have CF := Lib.hid (fun W h => refFine_all (sz f) f (Nat.le_refl _) a c b d W h)
  have CD := Lib.hid (fun W h g => deep_all (sz f) f (Nat.le_refl _) a c b d W h g)
  have CN := Lib.hid (fun W h g => nodes_all (sz f) f (Nat.le_refl _) a c b d W h g)
  obtain ⟨sn, en, _⟩ := bs_bytes f.name
  obtain ⟨so, eo, _⟩ := bs_bytes f.op
  rw [en, eo] at CF CD CN ⊢
  have HF := Lib.hid hF
  obtain ⟨fi, hfi⟩ : ∃ x, x = fine f := ⟨_, rfl⟩
  obtain ⟨de, hde⟩ : ∃ x, x = dep f := ⟨_, rfl⟩
  obtain ⟨nd, hnd⟩ : ∃ x, x = sz f := ⟨_, rfl⟩
  have HR := Lib.hid (show mayB f 10 60 = (fi && decide (de ≤ 10) && decide (nd ≤ 60)) by rw [hfi, hde, hnd]; rfl)
  obtain ⟨res, hres⟩ : ∃ x, x = mayB f 10 60 := ⟨_, rfl⟩
  rw [← hres] at HR ⊢
  have H5 := Lib.hid h5
  rw [← hfi, ← hnd] at H5
  rw [← hfi] at CF
  rw [← hde, ← hnd] at CD
  rw [← hnd] at CN
  obtain ⟨k, hqk⟩ : ∃ x, x = f.kind := ⟨_, rfl⟩
  obtain ⟨n, hqv⟩ : ∃ x, x = f.vals.length := ⟨_, rfl⟩
  obtain ⟨l, hqp⟩ : ∃ x, x = f.parts.length := ⟨_, rfl⟩
  rw [← hqk, ← hqv, ← hqp] at CF CD CN ⊢
  clear en eo hF hres hqk hqv hqp hfi hde hnd h5
  obtain ⟨w1, hw1⟩ : ∃ v, v = w.alloc (.cells #[.int .i64 k, .string sn, .string so, .slice a n c, .slice b l d] 27) := ⟨_, rfl⟩
  have X1 := Lib.hid (show Box w1 w.heap.size (.int .i64 k) (.string sn) (.string so) (.slice a n c) (.slice b l d) by rw [hw1]; exact Box.new ..)
  have HB := Lib.hid (show Below w.heap.size w w1 by rw [hw1]; exact (Below.refl _ _).alloc (Nat.le_refl _) _)
  have HW := Lib.hid hw1
  clear hw1
  cases fi
  case false =>
    have HG := Lib.hid (show res = false by rw [HR.out]; rfl)
    go_enter Tryz.func28, Tryz.ntmps28
    go_wp2_with (go_at_call 46; rw [← HW.out]; refine Calls.mono (CF.out _ (HF.out.fit HB.out)) ?_; rintro e w2 ⟨rfl, hb⟩; have HB2 := Lib.hid (HB.out.trans (hb.mono HB.out.size)); have X2 := Lib.hid (X1.out.later hb); obtain ⟨c0, c1, c2, c3, c4⟩ := X2.out; clear hb)
    go_ret
    exact ⟨by rw [HG.out]; rfl, HB2.out⟩
  have H5K := Lib.hid (H5.out rfl)
  by_cases h10 : de ≤ 10
  case neg =>
    have HG := Lib.hid (show res = false by rw [HR.out, decide_eq_false h10]; rfl)
    have h10z : ¬ (de : Int) ≤ 10 := by omega
    have h10b : decide ((de : Int) ≤ 10) = false := decide_eq_false h10z
    go_enter Tryz.func28, Tryz.ntmps28
    go_wp2_with (first | (go_at_call 46; rw [← HW.out]; refine Calls.mono (CF.out _ (HF.out.fit HB.out)) ?_; rintro e w2 ⟨rfl, hb⟩; have HB2 := Lib.hid (HB.out.trans (hb.mono HB.out.size)); have X2 := Lib.hid (X1.out.later hb); obtain ⟨c0, c1, c2, c3, c4⟩ := X2.out; clear hb) | (go_at_call 47; refine Calls.mono (CD.out _ (HF.out.fit HB2.out) H5K.out) ?_; rintro e w3 ⟨rfl, hb⟩; have HB3 := Lib.hid (HB2.out.trans (hb.mono HB2.out.size)); have X3 := Lib.hid (X2.out.later hb); obtain ⟨d0, d1, d2, d3, d4⟩ := X3.out; clear hb))
    go_ret
    exact ⟨by rw [HG.out]; rfl, HB3.out⟩
  have h10z : (de : Int) ≤ 10 := by omega
  have h10b : decide ((de : Int) ≤ 10) = true := decide_eq_true h10z
  have HG := Lib.hid (show res = decide ((nd : Int) ≤ 60) by rw [HR.out, decide_eq_true h10, Bool.true_and, Bool.true_and]; exact decide_eq_decide.2 (by omega))
  go_enter Tryz.func28, Tryz.ntmps28
  go_wp2_with (first | (go_at_call 46; rw [← HW.out]; refine Calls.mono (CF.out _ (HF.out.fit HB.out)) ?_; rintro e w2 ⟨rfl, hb⟩; have HB2 := Lib.hid (HB.out.trans (hb.mono HB.out.size)); have X2 := Lib.hid (X1.out.later hb); obtain ⟨c0, c1, c2, c3, c4⟩ := X2.out; clear hb) | (go_at_call 47; refine Calls.mono (CD.out _ (HF.out.fit HB2.out) H5K.out) ?_; rintro e w3 ⟨rfl, hb⟩; have HB3 := Lib.hid (HB2.out.trans (hb.mono HB2.out.size)); have X3 := Lib.hid (X2.out.later hb); obtain ⟨d0, d1, d2, d3, d4⟩ := X3.out; clear hb) | (go_at_call 48; refine Calls.mono (CN.out _ (HF.out.fit HB3.out) H5K.out) ?_; rintro e w4 ⟨rfl, hb⟩; have HB4 := Lib.hid (HB3.out.trans (hb.mono HB3.out.size)); clear hb))
  go_ret
  exact ⟨by rw [HG.out]; first | rfl | simp, HB4.out⟩
end Go.Proofs.YtmfkpoojfpepaaaGreatDoor.Fl
