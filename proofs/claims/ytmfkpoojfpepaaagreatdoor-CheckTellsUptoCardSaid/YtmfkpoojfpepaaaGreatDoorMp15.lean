/-
  Arguments that are slices of strings, of bools, of attributes, opened. No function of the program here.
-/
import Derived.Test.YtmfkpoojfpepaaaGreatDoorMp14
import Derived.Test.YtmfkpoojfpepaaaGreatDoorProg
import Derived.WalkKit
import Derived.WalkSpells
import Derived.LaidEql
import Derived.KernelRfl
import Derived.Below
import Derived.Handy
import Derived.Test.YtmfkpoojfpepaaaGreatDoorMp13
import Derived.BigQuiet
import Derived.Test.YtmfkpoojfpepaaaGreatDoorMp09
/-
  Contracts of the document's answers count and Few: is a filter small? Memory that was there is left as it was.
-/
namespace Go.Proofs.YtmfkpoojfpepaaaGreatDoor.Fl
open Go.RowKit Go.Proofs.YtmfkpoojfpepaaaGreatDoor.Tk
set_option linter.unusedVariables false
set_option linter.unusedSimpArgs false

/-- What count tells: of a filter that may be, but for its depth and its nodes, no more is left than its nodes leave. -/
def CntOk (f : Flt) : Prop := ∀ (a : Option Addr) (c : Nat) (b : Option Addr) (d : Nat) (m : Int) (w : World), FltAt w (Old w.heap.size) f a b →
  Calls Tryz.prog 17 #[.agg #[.int .i64 f.kind, bs f.name, bs f.op, .slice a f.vals.length c, .slice b f.parts.length d], .int .i64 m] w fun e w' => (∃ r : Int, e = .returned (.int .i64 r) ∧ (fine f = true → 0 ≤ m → m ≤ 5000 → -6000 ≤ r ∧ r ≤ 5000 ∧ (0 ≤ r → r + (sz f : Nat) ≤ m))) ∧ Below w.heap.size w w'
/-- Anything goes, or what is left is what the values leave. -/
def CvR (ok : Bool) (vs : List Att) (m : Int) (w : World) (vm vi : Value) (wr : World) : Prop :=
  ∃ (j : Nat) (x : Int), j ≤ vs.length ∧ vi = .int .i64 j ∧ vm = .int .i64 x ∧ Hid (ok = true → m - 24 - 201 * (j : Nat) ≤ x ∧ x ≤ m - 1) ∧ Below w.heap.size w wr
def CpR (ok : Bool) (ps : List Flt) (m : Int) (w : World) (vm vi : Value) (wr : World) : Prop :=
  ∃ (j : Nat) (x : Int), j ≤ ps.length ∧ vi = .int .i64 j ∧ vm = .int .i64 x ∧ Hid (ok = true → -6000 ≤ x ∧ x ≤ 5000 ∧ (0 ≤ x → x + 1 + (szL (ps.take j) : Nat) ≤ m)) ∧ Below w.heap.size w wr
theorem fine_small {k : Int} {nm o : List UInt8} {vs : List Att} {ps : List Flt} (h : fine (.mk k nm o vs ps) = true) : nm.length ≤ 20 ∧ o.length ≤ 2 ∧ vs.length ≤ 20 ∧ (∀ v ∈ vs, v.name.length = 0 ∧ v.str.length ≤ 200) ∧ ∀ q ∈ ps, fine q = true := by
  rw [fine_eq, Bool.and_eq_true] at h
  obtain ⟨h1, h2⟩ := h
  have hq : ∀ q ∈ ps, fine q = true := fun q hq => by
    have := List.all_eq_true.1 h2 q hq
    simp only [Bool.and_eq_true] at this
    exact this.2
  have hv : ∀ v : Att, valB v = true → v.name.length = 0 ∧ v.str.length ≤ 200 := fun v hv => by
    unfold valB at hv
    simp only [Bool.and_eq_true, beq_iff_eq] at hv
    refine ⟨by rw [hv.1]; rfl, ?_⟩
    cases ht : v.text
    · rw [ht] at hv
      simp at hv
      rw [hv.2]
      simp
    · rw [ht] at hv
      have := hv.2
      simp only [if_true, Bool.and_eq_true] at this
      have h9 := this.2
      rw [plainB_eq, Bool.and_eq_true, decide_eq_true_eq] at h9
      exact h9.2
  have bare : bareB nm o vs = true → nm.length ≤ 20 ∧ o.length ≤ 2 ∧ vs.length ≤ 20 ∧ (∀ v ∈ vs, v.name.length = 0 ∧ v.str.length ≤ 200) := fun hb => by
    unfold bareB at hb
    simp only [Bool.and_eq_true, beq_iff_eq, decide_eq_true_eq] at hb
    obtain ⟨⟨rfl, rfl⟩, h0⟩ := hb
    have := List.eq_nil_of_length_eq_zero h0
    subst this
    exact ⟨by simp, by simp, by simp, fun v hv => by simp at hv⟩
  have leaf : leafQ nm vs ps.length = true → nm.length ≤ 20 ∧ vs.length ≤ 20 ∧ (∀ v ∈ vs, v.name.length = 0 ∧ v.str.length ≤ 200) := fun hb => by
    unfold leafQ at hb
    simp only [Bool.and_eq_true, decide_eq_true_eq] at hb
    exact ⟨(name_short hb.1.1.2).1, hb.1.2, fun v hv' => hv v (List.all_eq_true.1 hb.2 v hv')⟩
  have opl : opB o = true → o.length ≤ 2 := fun ho => by
    simp only [opB, Bool.or_eq_true, beq_iff_eq] at ho
    rcases ho with ((((rfl | rfl) | rfl) | rfl) | rfl) | rfl <;> simp
  have fin : nm.length ≤ 20 ∧ o.length ≤ 2 ∧ vs.length ≤ 20 ∧ (∀ v ∈ vs, v.name.length = 0 ∧ v.str.length ≤ 200) := by
    unfold wholeB at h1
    split at h1
    · simp only [Bool.and_eq_true] at h1; exact bare h1.1
    split at h1
    · simp only [Bool.and_eq_true] at h1; exact bare h1.1
    split at h1
    · simp only [Bool.and_eq_true] at h1; exact bare h1.1
    split at h1
    · simp only [Bool.and_eq_true] at h1
      have := leaf h1.1.1
      exact ⟨this.1, opl h1.1.2, this.2⟩
    split at h1
    · simp only [Bool.and_eq_true, beq_iff_eq] at h1
      have := leaf h1.1.1.1
      exact ⟨this.1, by rw [h1.1.1.2]; simp, this.2⟩
    split at h1
    · simp only [Bool.and_eq_true, beq_iff_eq] at h1
      have := leaf h1.1.1.1
      exact ⟨this.1, by rw [h1.1.1.2]; simp, this.2⟩
    · cases h1
  exact ⟨fin.1, fin.2.1, fin.2.2.1, fin.2.2.2, hq⟩
set_option maxHeartbeats 8000000 in
set_option maxRecDepth 100000 in
theorem cnt_any (f : Flt) (ih : ∀ q ∈ f.parts, CntOk q) (a : Option Addr) (c : Nat) (b : Option Addr) (d : Nat) (m : Int) (w : World) (hF : FltAt w (Old w.heap.size) f a b) :
    Calls Tryz.prog 17 #[.agg #[.int .i64 f.kind, bs f.name, bs f.op, .slice a f.vals.length c, .slice b f.parts.length d], .int .i64 m] w fun e w' => (∃ r : Int, e = .returned (.int .i64 r)) ∧ Below w.heap.size w w' := by
  obtain ⟨k, nm, o, vs, ps⟩ := f
  simp only [Flt.kind, Flt.name, Flt.op, Flt.vals, Flt.parts] at ih ⊢
  obtain ⟨sn, en, hsn⟩ := bs_bytes nm
  obtain ⟨so, eo, hso⟩ := bs_bytes o
  rw [en, eo]
  have IH := Lib.hid ih
  have HA := Lib.hid hF.atts
  have HP := Lib.hid hF.parts
  simp only [Flt.vals] at HA
  simp only [Flt.parts] at HP
  have HSN := Lib.hid hsn
  have HSO := Lib.hid hso
  have hlen : ps.length ≤ 9223372036854775807 := by have := hF.small.2.2.2.2; simp only [Flt.parts] at this; unfold maxLen at this; omega
  have hvl : vs.length ≤ 9223372036854775807 := by have := hF.atts.1; simp only [Flt.vals] at this; unfold maxLen at this; omega
  obtain ⟨n, hn⟩ : ∃ n, n = vs.length := ⟨_, rfl⟩
  obtain ⟨l, hl⟩ : ∃ n, n = ps.length := ⟨_, rfl⟩
  have HN := Lib.hid hn
  have HL := Lib.hid hl
  rw [← hn] at hvl
  rw [← hl] at hlen
  rw [← hn, ← hl]
  clear ih hF en eo hsn hso hn hl
  obtain ⟨w1, hw1⟩ : ∃ v, v = w.alloc (.cells #[.int .i64 k, .string sn, .string so, .slice a n c, .slice b l d] 27) := ⟨_, rfl⟩
  have X1 := Lib.hid (show Box w1 w.heap.size (.int .i64 k) (.string sn) (.string so) (.slice a n c) (.slice b l d) by rw [hw1]; exact Box.new ..)
  have HB := Lib.hid (show Below w.heap.size w w1 by rw [hw1]; exact (Below.refl _ _).alloc (Nat.le_refl _) _)
  have HW := Lib.hid hw1
  clear hw1
  go_enter Tryz.func17, Tryz.ntmps17
  go_wp2_with fail
  rw [← HW.out]
  go_loopw [1, 5] (fun vm vi wr => CvR false vs m w1 vm vi wr) (fun _ vi _ => n - (intOf vi).toNat)
  case atStart => exact ⟨0, _, Nat.zero_le _, rfl, rfl, Lib.hid (by intro h; cases h), Below.refl _ _⟩
  case round =>
    obtain ⟨j, x, hk, rfl, rfl, hx, hBB⟩ := hrel
    have HK := Lib.hid hk
    have HBB := Lib.hid hBB
    have HBW := Lib.hid (HB.out.trans (hBB.mono HB.out.size))
    have X3 := Lib.hid (X1.out.later hBB)
    obtain ⟨p0, p1, p2, p3, p4⟩ := X3.out
    clear hk hBB
    by_cases hlt : j < n
    · have hlz : (j : Int) < (n : Int) := by omega
      have hku : j < vs.length := by rw [← HN.out]; exact hlt
      obtain ⟨g, o', hg, hgl, hc⟩ := (HA.out.later HBW.out).2.2 (by omega)
      obtain ⟨e0, e1, e2, e3⟩ := hc j hku
      obtain ⟨U, hU⟩ : ∃ V, V = vs[j] := ⟨_, rfl⟩
      rw [← hU] at e0 e1 e2 e3
      have HMEM := Lib.hid (show U ∈ vs by rw [hU]; exact List.getElem_mem hku)
      obtain ⟨s1, q1, f1⟩ := bs_bytes U.name
      obtain ⟨t1, q2, f2⟩ := bs_bytes U.str
      rw [q1] at e0
      rw [q2] at e3
      subst hg
      clear hc hU q1 q2 f1 f2 e1 e2 hgl
      go_wp2_with fail
      go_big_quiet (fail)
      all_goals
        go_wp2_with fail
        go_roundw
        case rel => exact ⟨j + 1, _, by have := HN.out; omega, by go_num, rfl, Lib.hid (by intro h; cases h), below_drewN HBB.out _⟩
        case measure => simp [intOf]; omega
    · have hlz : ¬ (j : Int) < (n : Int) := by omega
      obtain ⟨wb, hwb⟩ : ∃ v, v = wr := ⟨_, rfl⟩
      rw [← hwb] at HBB HBW p0 p1 p2 p3 p4 ⊢
      clear hwb HK p0 p1 p2
      go_wp2_with fail
      go_loopw [1, 6] (fun vm vi wr => CpR false ps m w1 vm vi wr) (fun _ vi _ => l - (intOf vi).toNat)
      case atStart => exact ⟨0, _, Nat.zero_le _, rfl, rfl, Lib.hid (by intro h; cases h), HBB.out⟩
      case round =>
        obtain ⟨j, y, hk, rfl, rfl, hy, hBB⟩ := hrel
        have HK := Lib.hid hk
        have HBC := Lib.hid hBB
        have HBW := Lib.hid (HB.out.trans (hBB.mono HB.out.size))
        have X3 := Lib.hid (X1.out.later hBB)
        obtain ⟨r0, r1, r2, r3, r4⟩ := X3.out
        clear hk hBB hlt hlz p3 p4
        by_cases hlt : j < l
        · have hlz : (j : Int) < (l : Int) := by omega
          by_cases hy0 : 0 ≤ y
          · have hyb : decide ((0 : Int) ≤ y) = true := decide_eq_true hy0
            have hku : j < ps.length := by rw [← HL.out]; exact hlt
            obtain ⟨g, o', a1, c1, b1, d1, hg, hgl, h5, hf⟩ := (HP.out.later HBW.out).get j hku
            obtain ⟨U, hU⟩ : ∃ V, V = ps[j] := ⟨_, rfl⟩
            rw [← hU] at h5 hf
            have HUK := Lib.hid (show ps[j]? = some U by rw [hU]; exact List.getElem?_eq_getElem hku)
            have CI := Lib.hid (fun W h1 => IH.out U (List.mem_of_getElem? HUK.out) a1 c1 b1 d1 y W h1)
            have HFU := Lib.hid hf
            have HGL := Lib.hid (show g < wr.heap.size from Nat.lt_of_lt_of_le hgl HBW.out.size)
            have hgw : g < wr.heap.size := HGL.out
            have hbw : w.heap.size < wr.heap.size := X3.out.lt
            subst hg
            obtain ⟨e0, e1, e2, e3, e4⟩ := h5
            rw [Nat.zero_add] at e0 e1 e2 e3 e4
            obtain ⟨un, hun, _⟩ := bs_bytes U.name
            obtain ⟨uo, huo, _⟩ := bs_bytes U.op
            rw [hun] at e1 CI
            rw [huo] at e2 CI
            obtain ⟨uk, huk⟩ : ∃ x, x = U.kind := ⟨_, rfl⟩
            obtain ⟨uv, huv⟩ : ∃ x, x = U.vals.length := ⟨_, rfl⟩
            obtain ⟨up, hup⟩ : ∃ x, x = U.parts.length := ⟨_, rfl⟩
            rw [← huk] at e0 CI
            rw [← huv] at e3 CI
            rw [← hup] at e4 CI
            have HUKD := Lib.hid huk
            have E0 := Lib.hid e0
            clear hU hf hgl hun huo huk huv hup
            have WA := Lib.hid (show ∀ W, Below w.heap.size wr W → FltAt W (Old W.heap.size) U a1 b1 from fun W hW => (HFU.out.later hW).wide (Nat.le_trans HBW.out.size hW.size))
            have HSTEP := Lib.hid (szL_step HUK.out)
            have HMEM := Lib.hid (List.mem_of_getElem? HUK.out)
            go_wp2_with (go_at_call 17; refine Calls.mono (CI.out _ (WA.out _ (Below.refl _ _))) ?_; rintro e w3 ⟨⟨r, rfl, hr⟩, hb⟩; have HR3 := Lib.hid hr; have HB3 := Lib.hid (HBC.out.trans (hb.mono HBC.out.size)); clear hb hr)
            go_roundw
            case rel => exact ⟨j + 1, r, by have := HL.out; omega, by go_num, rfl, Lib.hid (by intro h; cases h), HB3.out⟩
            case measure => simp [intOf]; omega
          · have hyb : decide ((0 : Int) ≤ y) = false := decide_eq_false hy0
            go_wp2_with fail
            go_ret
            exact ⟨⟨y, rfl⟩, HBW.out⟩
        · have hlz : ¬ (j : Int) < (l : Int) := by omega
          go_wp2_with fail
          go_ret
          exact ⟨⟨y, rfl⟩, HBW.out⟩
set_option maxHeartbeats 8000000 in
set_option maxRecDepth 100000 in
theorem cnt_good (f : Flt) (ih : ∀ q ∈ f.parts, CntOk q) (hfi : fine f = true) (a : Option Addr) (c : Nat) (b : Option Addr) (d : Nat) (m : Int) (hm0 : 0 ≤ m) (hm5 : m ≤ 5000) (w : World) (hF : FltAt w (Old w.heap.size) f a b) :
    Calls Tryz.prog 17 #[.agg #[.int .i64 f.kind, bs f.name, bs f.op, .slice a f.vals.length c, .slice b f.parts.length d], .int .i64 m] w fun e w' => (∃ r : Int, e = .returned (.int .i64 r) ∧ (fine f = true → 0 ≤ m → m ≤ 5000 → -6000 ≤ r ∧ r ≤ 5000 ∧ (0 ≤ r → r + (sz f : Nat) ≤ m))) ∧ Below w.heap.size w w' := by
  obtain ⟨k, nm, o, vs, ps⟩ := f
  simp only [Flt.kind, Flt.name, Flt.op, Flt.vals, Flt.parts] at ih ⊢
  obtain ⟨sn, en, hsn⟩ := bs_bytes nm
  obtain ⟨so, eo, hso⟩ := bs_bytes o
  rw [en, eo]
  have IH := Lib.hid ih
  have HA := Lib.hid hF.atts
  have HP := Lib.hid hF.parts
  simp only [Flt.vals] at HA
  simp only [Flt.parts] at HP
  have HSN := Lib.hid hsn
  have HSO := Lib.hid hso
  have hlen : ps.length ≤ 9223372036854775807 := by have := hF.small.2.2.2.2; simp only [Flt.parts] at this; unfold maxLen at this; omega
  have hvl : vs.length ≤ 9223372036854775807 := by have := hF.atts.1; simp only [Flt.vals] at this; unfold maxLen at this; omega
  obtain ⟨n, hn⟩ : ∃ n, n = vs.length := ⟨_, rfl⟩
  obtain ⟨l, hl⟩ : ∃ n, n = ps.length := ⟨_, rfl⟩
  have HN := Lib.hid hn
  have HL := Lib.hid hl
  rw [← hn] at hvl
  rw [← hl] at hlen
  have HSM := Lib.hid (fine_small hfi)
  have hsn20 : sn.size ≤ 20 := by rw [Lib.size_eq, hsn]; exact HSM.out.1
  have hso2 : so.size ≤ 2 := by rw [Lib.size_eq, hso]; exact HSM.out.2.1
  have HN20 := Lib.hid (show n ≤ 20 by rw [hn]; exact HSM.out.2.2.1)
  rw [← hn, ← hl]
  clear ih hF en eo hsn hso hn hl hfi
  obtain ⟨w1, hw1⟩ : ∃ v, v = w.alloc (.cells #[.int .i64 k, .string sn, .string so, .slice a n c, .slice b l d] 27) := ⟨_, rfl⟩
  have X1 := Lib.hid (show Box w1 w.heap.size (.int .i64 k) (.string sn) (.string so) (.slice a n c) (.slice b l d) by rw [hw1]; exact Box.new ..)
  have HB := Lib.hid (show Below w.heap.size w w1 by rw [hw1]; exact (Below.refl _ _).alloc (Nat.le_refl _) _)
  have HW := Lib.hid hw1
  clear hw1
  go_enter Tryz.func17, Tryz.ntmps17
  go_wp2_with fail
  rw [← HW.out]
  go_loopw [1, 5] (fun vm vi wr => CvR true vs m w1 vm vi wr) (fun _ vi _ => n - (intOf vi).toNat)
  case atStart => exact ⟨0, _, Nat.zero_le _, rfl, rfl, Lib.hid (by intro _; omega), Below.refl _ _⟩
  case round =>
    obtain ⟨j, x, hk, rfl, rfl, hx, hBB⟩ := hrel
    have HK := Lib.hid hk
    have HBB := Lib.hid hBB
    have HBW := Lib.hid (HB.out.trans (hBB.mono HB.out.size))
    have X3 := Lib.hid (X1.out.later hBB)
    obtain ⟨p0, p1, p2, p3, p4⟩ := X3.out
    clear hk hBB
    by_cases hlt : j < n
    · have hlz : (j : Int) < (n : Int) := by omega
      have hku : j < vs.length := by rw [← HN.out]; exact hlt
      obtain ⟨g, o', hg, hgl, hc⟩ := (HA.out.later HBW.out).2.2 (by omega)
      obtain ⟨e0, e1, e2, e3⟩ := hc j hku
      obtain ⟨U, hU⟩ : ∃ V, V = vs[j] := ⟨_, rfl⟩
      rw [← hU] at e0 e1 e2 e3
      have HMEM := Lib.hid (show U ∈ vs by rw [hU]; exact List.getElem_mem hku)
      obtain ⟨s1, q1, f1⟩ := bs_bytes U.name
      obtain ⟨t1, q2, f2⟩ := bs_bytes U.str
      rw [q1] at e0
      rw [q2] at e3
      subst hg
      have hs0 : s1.size = 0 := by rw [Lib.size_eq, f1]; exact (HSM.out.2.2.2.1 U HMEM.out).1
      have ht0 : t1.size ≤ 200 := by rw [Lib.size_eq, f2]; exact (HSM.out.2.2.2.1 U HMEM.out).2
      have hxb : -6000 ≤ x ∧ x ≤ 5000 := by have := hx.out (by first | rfl | trivial); have := HN20.out; omega
      have HX := Lib.hid (show m - 24 - 201 * ((j + 1 : Nat) : Int) ≤ x - 1 - (t1.size : Int) ∧ x - 1 - (t1.size : Int) ≤ m - 1 by have := hx.out (by first | rfl | trivial); omega)
      clear hc hU q1 q2 f1 f2 e1 e2 hgl
      go_wp2_with fail
      go_big_quiet (fail)
      all_goals
        go_wp2_with fail
        go_roundw
        case rel => exact ⟨j + 1, _, by have := HN.out; omega, by go_num, rfl, Lib.hid (by intro _; have := HX.out; first | exact this | (simp only [hs0]; omega) | omega), below_drewN HBB.out _⟩
        case measure => simp [intOf]; omega
    · have hlz : ¬ (j : Int) < (n : Int) := by omega
      have hxb : -6000 ≤ x ∧ x ≤ 5000 ∧ x ≤ m - 1 := by have := hx.out (by first | rfl | trivial); have := HN20.out; have := HK.out; have := HN.out; omega
      obtain ⟨wb, hwb⟩ : ∃ v, v = wr := ⟨_, rfl⟩
      rw [← hwb] at HBB HBW p0 p1 p2 p3 p4 ⊢
      clear hwb HK p0 p1 p2
      go_wp2_with fail
      go_loopw [1, 6] (fun vm vi wr => CpR true ps m w1 vm vi wr) (fun _ vi _ => l - (intOf vi).toNat)
      case atStart => exact ⟨0, _, Nat.zero_le _, rfl, rfl, Lib.hid (by intro _; simp [szL]; omega), HBB.out⟩
      case round =>
        obtain ⟨j, y, hk, rfl, rfl, hy, hBB⟩ := hrel
        have HK := Lib.hid hk
        have HBC := Lib.hid hBB
        have HBW := Lib.hid (HB.out.trans (hBB.mono HB.out.size))
        have X3 := Lib.hid (X1.out.later hBB)
        obtain ⟨r0, r1, r2, r3, r4⟩ := X3.out
        clear hk hBB hlt hlz p3 p4
        by_cases hlt : j < l
        · have hlz : (j : Int) < (l : Int) := by omega
          by_cases hy0 : 0 ≤ y
          · have hyb : decide ((0 : Int) ≤ y) = true := decide_eq_true hy0
            have hku : j < ps.length := by rw [← HL.out]; exact hlt
            obtain ⟨g, o', a1, c1, b1, d1, hg, hgl, h5, hf⟩ := (HP.out.later HBW.out).get j hku
            obtain ⟨U, hU⟩ : ∃ V, V = ps[j] := ⟨_, rfl⟩
            rw [← hU] at h5 hf
            have HUK := Lib.hid (show ps[j]? = some U by rw [hU]; exact List.getElem?_eq_getElem hku)
            have CI := Lib.hid (fun W h1 => IH.out U (List.mem_of_getElem? HUK.out) a1 c1 b1 d1 y W h1)
            have HFU := Lib.hid hf
            have HGL := Lib.hid (show g < wr.heap.size from Nat.lt_of_lt_of_le hgl HBW.out.size)
            have hgw : g < wr.heap.size := HGL.out
            have hbw : w.heap.size < wr.heap.size := X3.out.lt
            subst hg
            obtain ⟨e0, e1, e2, e3, e4⟩ := h5
            rw [Nat.zero_add] at e0 e1 e2 e3 e4
            obtain ⟨un, hun, _⟩ := bs_bytes U.name
            obtain ⟨uo, huo, _⟩ := bs_bytes U.op
            rw [hun] at e1 CI
            rw [huo] at e2 CI
            obtain ⟨uk, huk⟩ : ∃ x, x = U.kind := ⟨_, rfl⟩
            obtain ⟨uv, huv⟩ : ∃ x, x = U.vals.length := ⟨_, rfl⟩
            obtain ⟨up, hup⟩ : ∃ x, x = U.parts.length := ⟨_, rfl⟩
            rw [← huk] at e0 CI
            rw [← huv] at e3 CI
            rw [← hup] at e4 CI
            have HUKD := Lib.hid huk
            have E0 := Lib.hid e0
            clear hU hf hgl hun huo huk huv hup
            have WA := Lib.hid (show ∀ W, Below w.heap.size wr W → FltAt W (Old W.heap.size) U a1 b1 from fun W hW => (HFU.out.later hW).wide (Nat.le_trans HBW.out.size hW.size))
            have HSTEP := Lib.hid (szL_step HUK.out)
            have HMEM := Lib.hid (List.mem_of_getElem? HUK.out)
            go_wp2_with (go_at_call 17; refine Calls.mono (CI.out _ (WA.out _ (Below.refl _ _))) ?_; rintro e w3 ⟨⟨r, rfl, hr⟩, hb⟩; have HR3 := Lib.hid hr; have HB3 := Lib.hid (HBC.out.trans (hb.mono HBC.out.size)); clear hb hr)
            go_roundw
            case rel => exact ⟨j + 1, r, by have := HL.out; omega, by go_num, rfl, Lib.hid (by 
                intro _
                have h1 := hy.out (by first | rfl | trivial)
                have h2 := HR3.out (HSM.out.2.2.2.2 U HMEM.out) hy0 h1.2.1
                rw [HSTEP.out]
                refine ⟨h2.1, h2.2.1, fun h0 => ?_⟩
                have h3 := h2.2.2 h0
                have h4 := h1.2.2 hy0
                omega), HB3.out⟩
            case measure => simp [intOf]; omega
          · have hyb : decide ((0 : Int) ≤ y) = false := decide_eq_false hy0
            go_wp2_with fail
            go_ret
            exact ⟨⟨y, rfl, by intros; have := hy.out (by first | rfl | trivial); exact ⟨this.1, this.2.1, fun h => absurd h (by omega)⟩⟩, HBW.out⟩
        · have hlz : ¬ (j : Int) < (l : Int) := by omega
          go_wp2_with fail
          go_ret
          exact ⟨⟨y, rfl, by
            intros
            have := hy.out (by first | rfl | trivial)
            rw [show j = ps.length by have := HL.out; have := HK.out; omega, List.take_length] at this
            refine ⟨this.1, this.2.1, fun h => ?_⟩
            have := this.2.2 h
            rw [sz]
            omega⟩, HBW.out⟩
theorem cnt_ok (f : Flt) (ih : ∀ q ∈ f.parts, CntOk q) : CntOk f := by
  intro a c b d m w hF
  by_cases h : fine f = true ∧ 0 ≤ m ∧ m ≤ 5000
  · exact cnt_good f ih h.1 a c b d m h.2.1 h.2.2 w hF
  · refine (cnt_any f ih a c b d m w hF).mono ?_
    rintro e w1 ⟨⟨r, rfl⟩, hb⟩
    exact ⟨⟨r, rfl, fun h1 h2 h3 => absurd ⟨h1, h2, h3⟩ h⟩, hb⟩
theorem cnt_all : ∀ (N : Nat) (f : Flt), sz f ≤ N → CntOk f
  | 0, f, h => by have := sz_pos f; omega
  | N + 1, f, h => cnt_ok f fun q hq => cnt_all N q (by
      cases f
      simp only [Flt.parts] at hq
      have := sz_mem hq
      rw [sz] at h
      omega)
/-- Few: of a small filter that may be, but for its depth and its nodes, the nodes are few. -/
theorem few_any (f : Flt) (a : Option Addr) (c : Nat) (b : Option Addr) (d : Nat) (w : World) (hF : FltAt w (Old w.heap.size) f a b) :
    Calls Tryz.prog 7 #[.agg #[.int .i64 f.kind, bs f.name, bs f.op, .slice a f.vals.length c, .slice b f.parts.length d]] w fun e w' => (∃ r : Bool, e = .returned (.bool r) ∧ (r = true → fine f = true → sz f ≤ 5000)) ∧ Below w.heap.size w w' := by
  have CC := Lib.hid (fun W h => cnt_all (sz f) f (Nat.le_refl _) a c b d 5000 W h)
  obtain ⟨sn, en, _⟩ := bs_bytes f.name
  obtain ⟨so, eo, _⟩ := bs_bytes f.op
  rw [en, eo] at CC ⊢
  have HF := Lib.hid hF
  obtain ⟨k, hqk⟩ : ∃ x, x = f.kind := ⟨_, rfl⟩
  obtain ⟨n, hqv⟩ : ∃ x, x = f.vals.length := ⟨_, rfl⟩
  obtain ⟨l, hqp⟩ : ∃ x, x = f.parts.length := ⟨_, rfl⟩
  rw [← hqk, ← hqv, ← hqp] at CC ⊢
  clear en eo hF hqk hqv hqp
  obtain ⟨w1, hw1⟩ : ∃ v, v = w.alloc (.cells #[.int .i64 k, .string sn, .string so, .slice a n c, .slice b l d] 27) := ⟨_, rfl⟩
  have X1 := Lib.hid (show Box w1 w.heap.size (.int .i64 k) (.string sn) (.string so) (.slice a n c) (.slice b l d) by rw [hw1]; exact Box.new ..)
  have HB := Lib.hid (show Below w.heap.size w w1 by rw [hw1]; exact (Below.refl _ _).alloc (Nat.le_refl _) _)
  have HW := Lib.hid hw1
  clear hw1
  go_enter Tryz.func7, Tryz.ntmps7
  go_wp2_with fail
  rw [← HW.out]
  refine Calls.mono (CC.out _ (HF.out.fit HB.out)) ?_
  rintro e w2 ⟨⟨r, rfl, hr⟩, hb⟩
  have HR := Lib.hid hr
  have HB2 := Lib.hid (HB.out.trans (hb.mono HB.out.size))
  clear hb hr
  by_cases h0 : 0 ≤ r
  · have h0b : decide ((0 : Int) ≤ r) = true := decide_eq_true h0
    go_wp2_with fail
    go_ret
    exact ⟨⟨true, rfl, fun _ h => by have h1 := HR.out h (by omega) (by omega); have h2 := h1.2.2 h0; omega⟩, HB2.out⟩
  · have h0b : decide ((0 : Int) ≤ r) = false := decide_eq_false h0
    go_wp2_with fail
    go_ret
    exact ⟨⟨false, rfl, fun h => by cases h⟩, HB2.out⟩
end Go.Proofs.YtmfkpoojfpepaaaGreatDoor.Fl
/-
  The contract of Code of the statements' own package, at no error and at any of the twelve: its number. Memory is left as it was.
-/
namespace Go.Proofs.YtmfkpoojfpepaaaGreatDoor.Cn
open Go.RowKit
set_option linter.unusedVariables false

theorem nil_nil (w : World) : (binOp .eql 34 .nilIface .nilIface).run Tryz.prog w = .ok (.bool true) w := by kernel_rfl
theorem nil_no (n : Int) (w : World) : (binOp .eql 34 (.iface 44 (.int .i64 n)) .nilIface).run Tryz.prog w = .ok (.bool false) w := by kernel_rfl
theorem eql_codes (n j : Int) (w : World) : (binOp .eql 34 (.iface 44 (.int .i64 n)) (.iface 44 (.int .i64 j))).run Tryz.prog w = .ok (.bool (n == j)) w := by kernel_rfl
theorem code_nil (w : World) : Calls Tryz.prog 11 #[.nilIface] w fun e w' => e = .returned (.int .i64 0) ∧ w = w' := by
  have h0 := nil_nil
  go_enter Tryz.func11, Tryz.ntmps11
  go_wp2_with fail
  go_ret
  exact ⟨rfl, rfl⟩
def CodeR (n : Nat) (w : World) (i : Value) (wr : World) : Prop := ∃ j : Nat, 1 ≤ j ∧ j ≤ n ∧ i = .int .i64 j ∧ w = wr
set_option maxHeartbeats 1000000 in
theorem code_any (n : Nat) (h1 : 1 ≤ n) (h2 : n ≤ 12) (w : World) : Calls Tryz.prog 11 #[.iface 44 (.int .i64 n)] w fun e w' => e = .returned (.int .i64 n) ∧ w = w' := by
  have q0 := nil_no n
  have q1 := eql_codes n
  go_enter Tryz.func11, Tryz.ntmps11
  go_wp2_with fail
  go_loopw [3] (fun i wr => CodeR n w i wr) (fun i _ => 20 - (intOf i).toNat)
  case atStart => exact ⟨1, by omega, by omega, rfl, rfl⟩
  case round =>
    obtain ⟨j, ha, hb, rfl, rfl⟩ := hrel
    have hle : (j : Int) ≤ 12 := by omega
    by_cases hj : j = n
    · subst hj
      have hjb : ((j : Int) == (j : Int)) = true := by simp
      go_wp2_with fail
      go_ret
      exact ⟨rfl, rfl⟩
    · have hjn : ((n : Int) == (j : Int)) = false := by rw [beq_eq_false_iff_ne]; omega
      go_wp2_with fail
      go_roundw
      case rel => exact ⟨j + 1, by omega, by omega, by go_num, rfl⟩
      case measure => simp [intOf]; omega
end Go.Proofs.YtmfkpoojfpepaaaGreatDoor.Cn
/-
  The walk of CheckParts: it returns true. Memory that was there is left as it was.
-/
namespace Go.Proofs.YtmfkpoojfpepaaaGreatDoor.Ck
open Go.RowKit Go.Maps Go.Proofs.YtmfkpoojfpepaaaGreatDoor.Fl Go.Proofs.YtmfkpoojfpepaaaGreatDoor.Tk
set_option linter.unusedVariables false
set_option linter.unusedSimpArgs false

mutual
theorem fine_nms : ∀ f : Flt, fine f = true → ∀ x ∈ nms f, x.length ≤ 20
  | .mk k nm o vs ps, h, x, hx => by
    obtain ⟨h1, _, _, _, h5⟩ := fine_small h
    rw [nms, List.mem_append] at hx
    rcases hx with hx | hx
    · split at hx
      · simp at hx
      · simp at hx
        rw [hx]
        exact h1
    · exact fine_nmsL ps h5 x hx
theorem fine_nmsL : ∀ ps : List Flt, (∀ q ∈ ps, fine q = true) → ∀ x ∈ nmsL ps, x.length ≤ 20
  | [], _, x, hx => by simp [nmsL] at hx
  | p :: r, h, x, hx => by
    rw [nmsL, List.mem_append] at hx
    rcases hx with hx | hx
    · exact fine_nms p (h p (by simp)) x hx
    · exact fine_nmsL r (fun q hq => h q (by simp [hq])) x hx
end
theorem row_nms {W : World} {z : Nat} {v : Value} {L : List Nm} (h : W.ownsRow z 9 1 v L.length (L.map bs)) (hs : ∀ s ∈ L, s.length ≤ maxLen) (hl : L.length ≤ maxLen) : ∃ a c, v = .slice a L.length c ∧ NmsAt W (Old W.heap.size) a L := by
  rcases h.2 with ⟨rfl, h0⟩ | ⟨g, cap, cur, rfl, hb, hh, _⟩
  · exact ⟨none, 0, by rw [h0], hl, hs, fun hp => by omega⟩
  · refine ⟨_, cap, rfl, hl, hs, fun hp => ⟨g, 0, rfl, (Array.getElem?_eq_some_iff.1 hh).1, fun k hk => ?_⟩⟩
    rw [Nat.zero_add, h.cellAt k (by omega), List.getElem?_map, List.getElem?_eq_getElem hk]
    rfl
theorem may_short {f : Flt} (h : mayB f 10 60 = true) : (nms f).length ≤ 2000000 ∧ (∀ x ∈ nms f, x.length ≤ 281474976710656) ∧ (∀ s ∈ sortN (nms f), s.length ≤ maxLen) ∧ (sortN (nms f)).length ≤ maxLen := by
  have h1 := may_nms h
  have h2 : ∀ x ∈ nms f, x.length ≤ 20 := by
    unfold mayB at h
    rw [Bool.and_eq_true, Bool.and_eq_true] at h
    exact fine_nms f h.1.1
  refine ⟨by omega, fun x hx => by have := h2 x hx; omega, fun s hs => ?_, ?_⟩
  · rw [mem_sortN] at hs
    have := h2 s hs
    unfold maxLen
    omega
  · have := length_sortN (nms f)
    unfold maxLen
    omega
theorem c11 (w : World) : (binOp .eql 34 (.iface 44 (.int .i64 1)) (.iface 44 (.int .i64 1))).run Tryz.prog w = .ok (.bool true) w := by kernel_rfl
theorem c91 (w : World) : (binOp .eql 34 (.iface 44 (.int .i64 9)) (.iface 44 (.int .i64 1))).run Tryz.prog w = .ok (.bool false) w := by kernel_rfl
theorem c99 (w : World) : (binOp .eql 34 (.iface 44 (.int .i64 9)) (.iface 44 (.int .i64 9))).run Tryz.prog w = .ok (.bool true) w := by kernel_rfl
theorem c41 (w : World) : (binOp .eql 34 (.iface 44 (.int .i64 4)) (.iface 44 (.int .i64 1))).run Tryz.prog w = .ok (.bool false) w := by kernel_rfl
theorem c49 (w : World) : (binOp .eql 34 (.iface 44 (.int .i64 4)) (.iface 44 (.int .i64 9))).run Tryz.prog w = .ok (.bool false) w := by kernel_rfl
theorem c44 (w : World) : (binOp .eql 34 (.iface 44 (.int .i64 4)) (.iface 44 (.int .i64 4))).run Tryz.prog w = .ok (.bool true) w := by kernel_rfl
theorem errV1 : errV 1 = .iface 44 (.int .i64 1) := rfl
theorem errV9 : errV 9 = .iface 44 (.int .i64 9) := rfl
def PaR (n : Nat) (w : World) (vi : Value) (wr : World) : Prop := ∃ j : Nat, j ≤ n ∧ vi = .int .i64 j ∧ Below w.heap.size w wr
def MtR (N : List Nm) (x : Nm) (w : World) (vm vi : Value) (wr : World) : Prop := ∃ (j : Nat) (m : Bool), j ≤ N.length ∧ vi = .int .i64 j ∧ vm = .bool m ∧ Hid (m = decide (x ∈ N.take j)) ∧ Below w.heap.size w wr
theorem met_step {N : List Nm} {x y : Nm} {j : Nat} (h : N[j]? = some y) : decide (x ∈ N.take (j + 1)) = (decide (x ∈ N.take j) || decide (y = x)) := by
  rw [List.take_add_one, h, ← Bool.decide_or]
  refine decide_eq_decide.2 ?_
  rw [List.mem_append]
  constructor
  · rintro (h | h)
    · exact .inl h
    · simp at h
      exact .inr h.symm
  · rintro (h | h)
    · exact .inl h
    · exact .inr (by simp [h])
set_option maxHeartbeats 20000000 in
set_option maxRecDepth 100000 in
theorem parts_walk (l : List Nm) (a : Option Addr) (c : Nat) (t : List Bool) (b : Option Addr) (d : Nat) (f : Flt) (fa : Option Addr) (fc : Nat) (fb : Option Addr) (fd : Nat) (w : World) (hE : LaidE w) (hL : NmsAt w (Old w.heap.size) a l) (hT : BlsAt w (Old w.heap.size) b t) (hF : FltAt w (Old w.heap.size) f fa fb) :
    Calls Tryz.prog 5 #[.slice a l.length c, .slice b t.length d, .agg #[.int .i64 f.kind, bs f.name, bs f.op, .slice fa f.vals.length fc, .slice fb f.parts.length fd]] w fun e w' => e = .returned (.bool true) ∧ Below w.heap.size w w' := by
  have HE := Lib.hid hE
  have HL := Lib.hid hL
  have HT := Lib.hid hT
  have HF := Lib.hid hF
  have HP := Lib.hid hF.parts
  have hlen : f.parts.length ≤ 9223372036854775807 := by have := hF.small.2.2.2.2; unfold maxLen at this; omega
  have CU := Lib.hid (fun W h => up_any W h)
  have CW := Lib.hid (fun W h => few_any f fa fc fb fd W h)
  have CS := Lib.hid (fun W h1 h2 => small_any l t a c b d W h1 h2)
  have CK := Lib.hid (fun W h1 h2 h3 => check_any l t a c b d f fa fc fb fd W h1 h2 h3)
  have CP := Lib.hid (fun (q : Flt) qa qc qb qd W h1 h2 h3 => check_any l t a c b d q qa qc qb qd W h1 h2 h3)
  have CM := Lib.hid (fun W h1 h2 h3 => names_any f fa fc fb fd W h1 h2 h3)
  obtain ⟨sn, en, _⟩ := bs_bytes f.name
  obtain ⟨so, eo, _⟩ := bs_bytes f.op
  rw [en, eo] at CW CK CM ⊢
  obtain ⟨k, hk⟩ : ∃ x, x = f.kind := ⟨_, rfl⟩
  obtain ⟨nv, hnv⟩ : ∃ x, x = f.vals.length := ⟨_, rfl⟩
  obtain ⟨np, hnp⟩ : ∃ x, x = f.parts.length := ⟨_, rfl⟩
  obtain ⟨nn, hnn⟩ : ∃ x, x = l.length := ⟨_, rfl⟩
  obtain ⟨nt, hnt⟩ : ∃ x, x = t.length := ⟨_, rfl⟩
  have HNP := Lib.hid hnp
  rw [← hk, ← hnv, ← hnp] at CW CK CM ⊢
  rw [← hnp] at hlen
  rw [← hnn, ← hnt] at CS CK CP ⊢
  have e0 := neqN
  have e1 := neqE
  have f1 := c11
  have f2 := c91
  have f3 := c99
  have f4 := c41
  have f5 := c49
  have f6 := c44
  clear hE hL hT hF en eo hk hnv hnp hnn hnt
  obtain ⟨w1, hw1⟩ : ∃ v, v = w.alloc (.cells #[.int .i64 k, .string sn, .string so, .slice fa nv fc, .slice fb np fd] 27) := ⟨_, rfl⟩
  have Y1 := Lib.hid (show Box w1 w.heap.size (.int .i64 k) (.string sn) (.string so) (.slice fa nv fc) (.slice fb np fd) by rw [hw1]; exact Box.new ..)
  have HB := Lib.hid (show Below w.heap.size w w1 by rw [hw1]; exact (Below.refl _ _).alloc (Nat.le_refl _) _)
  have HW := Lib.hid hw1
  clear hw1
  go_enter Tryz.func5, Tryz.ntmps5
  go_wp2_with fail
  rw [← HW.out]
  refine Calls.mono (CU.out _ (HE.out.later HB.out)) ?_
  rintro e w2 ⟨rfl, hb⟩
  have B2 := Lib.hid (HB.out.trans (hb.mono HB.out.size))
  have Y2 := Lib.hid (Y1.out.later hb)
  obtain ⟨p0, p1, p2, p3, p4⟩ := Y2.out
  clear hb
  go_wp2_with fail
  refine Calls.mono (CW.out _ (fit_flt HF.out B2.out)) ?_
  rintro e w3 ⟨⟨r, rfl, _⟩, hb⟩
  have B3 := Lib.hid (B2.out.trans (hb.mono B2.out.size))
  have Y3 := Lib.hid (Y2.out.later hb)
  clear hb p0 p1 p2 p3 p4
  cases r with
  | false =>
    go_wp2_with fail
    go_ret
    exact ⟨rfl, B3.out⟩
  | true =>
    go_wp2_with fail
    refine Calls.mono (CS.out _ (HL.out.fit B3.out B3.out.size) (HT.out.fit B3.out B3.out.size)) ?_
    rintro e w4 ⟨⟨r, rfl, hr⟩, rfl⟩
    cases r with
    | false =>
      go_wp2_with fail
      go_ret
      exact ⟨rfl, B3.out⟩
    | true =>
      have HS3 := Lib.hid (show SchAt w3 l t a b from ⟨by have := (hr rfl).1; omega, HL.out.fit B3.out B3.out.size, HT.out.fit B3.out B3.out.size⟩)
      clear hr
      obtain ⟨w4, hw4⟩ : ∃ v, v = w3.alloc (.cells #[.slice a nn c, .slice b nt d] 37) := ⟨_, rfl⟩
      have B34 := Lib.hid (show Below w3.heap.size w3 w4 by rw [hw4]; exact (Below.refl _ _).alloc (Nat.le_refl _) _)
      have X4 := Lib.hid (show Two w4 w3.heap.size (.slice a nn c) (.slice b nt d) by rw [hw4]; exact Two.new ..)
      have B4 := Lib.hid (B3.out.trans (B34.out.mono B3.out.size))
      have Y4 := Lib.hid (Y3.out.later B34.out)
      have HS4 := Lib.hid (HS3.out.fit B34.out)
      have HW4 := Lib.hid hw4
      have hbw : w.heap.size < w3.heap.size := Y3.out.lt
      obtain ⟨p0, p1, p2, p3, p4⟩ := Y3.out
      have CKF := Lib.hid (CK.out w4 (HE.out.later B4.out) HS4.out (fit_flt HF.out B4.out))
      clear hw4
      rcases chk_codes l t f with h0 | h0 | h0 | h0
      · have H0 := Lib.hid h0
        rw [h0, errV0] at CKF
        clear h0
        go_wp2_with fail
        rw [← HW4.out]
        refine Calls.mono CKF.out ?_
        rintro e w5 ⟨rfl, hb⟩
        have B5 := Lib.hid (B4.out.trans (hb.mono B4.out.size))
        have X5 := Lib.hid (X4.out.later hb)
        have Y5 := Lib.hid (Y4.out.later hb)
        have HS5 := Lib.hid (HS4.out.fit hb)
        clear hb p0 p1 p2 p3 p4 hbw
        obtain ⟨p0, p1, p2, p3, p4⟩ := Y5.out
        have HM := Lib.hid (chk_may H0.out)
        have HM2 := Lib.hid (may_short HM.out)
        go_wp2_with fail
        refine Calls.mono (CM.out _ (fit_flt HF.out B5.out) HM2.out.1 HM2.out.2.1) ?_
        rintro e w6 ⟨⟨v, rfl, hrow, _⟩, hb⟩
        obtain ⟨aa, ca, rfl, hall⟩ := row_nms hrow HM2.out.2.2.1 HM2.out.2.2.2
        have B6 := Lib.hid (B5.out.trans (hb.mono B5.out.size))
        have X6 := Lib.hid (X5.out.later hb)
        have Y6 := Lib.hid (Y5.out.later hb)
        have HS6 := Lib.hid (HS5.out.fit hb)
        have HALL := Lib.hid hall
        obtain ⟨N, hN⟩ : ∃ x, x = sortN (nms f) := ⟨_, rfl⟩
        have HNN := Lib.hid hN
        rw [← hN] at HALL ⊢
        obtain ⟨na, hna⟩ : ∃ x, x = N.length := ⟨_, rfl⟩
        have HNA := Lib.hid hna
        have hnab : na ≤ 9223372036854775807 := by have := HALL.out.1; unfold maxLen at this; omega
        rw [← hna]
        clear hb hrow hall hN hna p0 p1 p2 p3 p4
        go_wp2_with fail
        go_loopw [12] (fun vi wr => PaR np w6 vi wr) (fun vi _ => np - (intOf vi).toNat)
        case atStart => exact ⟨0, Nat.zero_le _, rfl, Below.refl _ _⟩
        case round =>
          obtain ⟨j, hk, rfl, hBB⟩ := hrel
          have HK := Lib.hid hk
          have HBB := Lib.hid hBB
          have HBW := Lib.hid (B6.out.trans (hBB.mono B6.out.size))
          have X7 := Lib.hid (X6.out.later hBB)
          have Y7 := Lib.hid (Y6.out.later hBB)
          have HS7 := Lib.hid (HS6.out.fit hBB)
          obtain ⟨p0, p1, p2, p3, p4⟩ := Y7.out
          clear hk hBB
          by_cases hlt : j < np
          · have hlz : (j : Int) < (np : Int) := by omega
            have hku : j < f.parts.length := by rw [← HNP.out]; exact hlt
            obtain ⟨g, o', a1, c1, b1, d1, hg, hgl, h5, hf⟩ := (HP.out.later HBW.out).get j hku
            obtain ⟨U, hU⟩ : ∃ V, V = f.parts[j] := ⟨_, rfl⟩
            rw [← hU] at h5 hf
            have HUM := Lib.hid (show U ∈ f.parts by rw [hU]; exact List.getElem_mem hku)
            have HFU := Lib.hid (hf.wide HBW.out.size)
            have HM3 := Lib.hid (may_short (may_part HM.out HUM.out))
            have CPU := Lib.hid (CP.out U a1 c1 b1 d1)
            rw [chk_part H0.out HUM.out, errV0] at CPU
            have CNU := Lib.hid (fun W h1 => names_any U a1 c1 b1 d1 W h1 HM3.out.1 HM3.out.2.1)
            subst hg
            obtain ⟨g0, g1, g2, g3, g4⟩ := h5
            rw [Nat.zero_add] at g0 g1 g2 g3 g4
            obtain ⟨un, hun, _⟩ := bs_bytes U.name
            obtain ⟨uo, huo, _⟩ := bs_bytes U.op
            rw [hun] at g1 CPU CNU
            rw [huo] at g2 CPU CNU
            obtain ⟨uk, huk⟩ : ∃ x, x = U.kind := ⟨_, rfl⟩
            obtain ⟨uv, huv⟩ : ∃ x, x = U.vals.length := ⟨_, rfl⟩
            obtain ⟨up, hup⟩ : ∃ x, x = U.parts.length := ⟨_, rfl⟩
            rw [← huk] at g0 CPU CNU
            rw [← huv] at g3 CPU CNU
            rw [← hup] at g4 CPU CNU
            have HQ := Lib.hid (show ∀ W, Below wr.heap.size wr W → (fun W => W.cell? ⟨w3.heap.size, 0, none⟩ = some (.slice a nn c) ∧ W.cell? ⟨w3.heap.size, 1, none⟩ = some (.slice b nt d) ∧ W.cell? ⟨w.heap.size, 4, none⟩ = some (.slice (some ⟨g, o', none⟩) np fd) ∧ W.cell? ⟨g, o' + j * 5, none⟩ = some (.int .i64 uk) ∧ W.cell? ⟨g, o' + j * 5 + 1, none⟩ = some (.string un) ∧ W.cell? ⟨g, o' + j * 5 + 2, none⟩ = some (.string uo) ∧ W.cell? ⟨g, o' + j * 5 + 3, none⟩ = some (.slice a1 uv c1) ∧ W.cell? ⟨g, o' + j * 5 + 4, none⟩ = some (.slice b1 up d1) ∧ Below wr.heap.size wr W) W from fun W hW => by
              obtain ⟨x0, x1⟩ := X7.out.later hW
              obtain ⟨y0, y1, y2, y3, y4⟩ := Y7.out.later hW
              exact ⟨x0, x1, y4, cell_later hW g0, cell_later hW g1, cell_later hW g2, cell_later hW g3, cell_later hW g4, hW⟩)
            clear hU hf hgl hun huo huk huv hup
            go_wp2_with fail
            refine wp_region_held_drew (S := (fun W => W.cell? ⟨w3.heap.size, 0, none⟩ = some (.slice a nn c) ∧ W.cell? ⟨w3.heap.size, 1, none⟩ = some (.slice b nt d) ∧ W.cell? ⟨w.heap.size, 4, none⟩ = some (.slice (some ⟨g, o', none⟩) np fd) ∧ W.cell? ⟨g, o' + j * 5, none⟩ = some (.int .i64 uk) ∧ W.cell? ⟨g, o' + j * 5 + 1, none⟩ = some (.string un) ∧ W.cell? ⟨g, o' + j * 5 + 2, none⟩ = some (.string uo) ∧ W.cell? ⟨g, o' + j * 5 + 3, none⟩ = some (.slice a1 uv c1) ∧ W.cell? ⟨g, o' + j * 5 + 4, none⟩ = some (.slice b1 up d1) ∧ Below wr.heap.size wr W)) (by kernel_rfl) (HQ.out _ (Below.refl _ _).drew) (fun hHeld => ?_)
            refine wpAnyH_take (i := 0) (v := ?v0) rfl (by kernel_rfl) (by kernel_rfl) (by kernel_rfl) (fun _ _ _ h => h) (Or.inl ⟨by rfl, ?y0⟩) hHeld ?r0
            case y0 => (intro W hSw; simp only [List.getElem_toArray, List.getElem_cons_zero]; go_simp; try (with_reducible rfl))
            simp only [List.getElem_toArray, List.getElem_cons_zero, Act.put, List.setIfInBounds_toArray, List.set_cons_zero, List.set_cons_succ]
            refine wpAnyH_take (i := 1) (v := ?v1) rfl (by kernel_rfl) (by kernel_rfl) (by kernel_rfl) (fun _ _ _ h => h) (Or.inl ⟨by rfl, ?y1⟩) hHeld ?r1
            case y1 => (intro W hSw; simp only [List.getElem_toArray, List.getElem_cons_succ, List.getElem_cons_zero]; go_simp; try (with_reducible rfl))
            simp only [List.getElem_toArray, List.getElem_cons_succ, List.getElem_cons_zero, Act.put, List.setIfInBounds_toArray, List.set_cons_zero, List.set_cons_succ]
            refine wpAnyH_take (i := 2) (v := ?v2) rfl (by kernel_rfl) (by kernel_rfl) (by kernel_rfl) (fun _ _ _ h => h) (Or.inl ⟨by rfl, ?y2⟩) hHeld ?r2
            case y2 => (intro W hSw; simp only [List.getElem_toArray, List.getElem_cons_succ, List.getElem_cons_zero]; go_simp; try (with_reducible rfl))
            simp only [List.getElem_toArray, List.getElem_cons_succ, List.getElem_cons_zero, Act.put, List.setIfInBounds_toArray, List.set_cons_zero, List.set_cons_succ]
            refine wpAnyH_take (i := 3) (v := ?v3) rfl (by kernel_rfl) (by kernel_rfl) (by kernel_rfl) (fun _ _ _ h => h) (Or.inl ⟨by rfl, ?y3⟩) hHeld ?r3
            case y3 => (intro W hSw; simp only [List.getElem_toArray, List.getElem_cons_succ, List.getElem_cons_zero]; go_simp; try (with_reducible rfl))
            simp only [List.getElem_toArray, List.getElem_cons_succ, List.getElem_cons_zero, Act.put, List.setIfInBounds_toArray, List.set_cons_zero, List.set_cons_succ]
            refine wpAnyH_take (i := 4) (v := ?v4) rfl (by kernel_rfl) (by kernel_rfl) (by kernel_rfl) (fun _ _ _ h => h) (Or.inl ⟨by rfl, ?y4⟩) hHeld ?r4
            case y4 => (intro W hSw; simp only [List.getElem_toArray, List.getElem_cons_succ, List.getElem_cons_zero]; go_simp; try (with_reducible rfl))
            simp only [List.getElem_toArray, List.getElem_cons_succ, List.getElem_cons_zero, Act.put, List.setIfInBounds_toArray, List.set_cons_zero, List.set_cons_succ]
            refine wpAnyH_take (i := 5) (v := ?v5) rfl (by kernel_rfl) (by kernel_rfl) (by kernel_rfl) (fun _ _ _ h => h) (Or.inl ⟨by rfl, ?y5⟩) hHeld ?r5
            case y5 => (intro W hSw; simp only [List.getElem_toArray, List.getElem_cons_succ, List.getElem_cons_zero]; go_simp; try (with_reducible rfl))
            simp only [List.getElem_toArray, List.getElem_cons_succ, List.getElem_cons_zero, Act.put, List.setIfInBounds_toArray, List.set_cons_zero, List.set_cons_succ]
            refine wpAnyH_ready (rs := [6]) (by kernel_rfl) (by simp) (AllReadyH.cons rfl (fun K hK => ?_) AllReadyH.nil)
            simp only [List.getElem_toArray, List.getElem_cons_succ, List.getElem_cons_zero]
            go_simp
            go_at_call 12; refine (CPU.out _ (HE.out.later (HBW.out.trans (hHeld.2.2.2.2.2.2.2.2.mono HBW.out.size))) (HS7.out.fit hHeld.2.2.2.2.2.2.2.2) (fit_flt HFU.out hHeld.2.2.2.2.2.2.2.2)).mono ?_; rintro e wq ⟨rfl, hb1⟩
            try go_wp2_with fail
            refine hK.out _ _ (HQ.out _ (hHeld.2.2.2.2.2.2.2.2.trans (hb1.mono hHeld.2.2.2.2.2.2.2.2.size))) (fun hHeld1 => ?_)
            clear hK K hHeld
            have hHeld := hHeld1; clear hHeld1
            try simp only [List.getElem_toArray, List.getElem_cons_succ, List.getElem_cons_zero, Act.put, List.setIfInBounds_toArray, List.set_cons_zero, List.set_cons_succ]
            refine wpAnyH_take (i := 7) (v := ?v7) rfl (by kernel_rfl) (by kernel_rfl) (by kernel_rfl) (fun _ _ _ h => h) (Or.inl ⟨by rfl, ?y7⟩) hHeld ?r7
            case y7 => (intro W hSw; simp only [List.getElem_toArray, List.getElem_cons_succ, List.getElem_cons_zero]; go_simp; try (with_reducible rfl))
            simp only [List.getElem_toArray, List.getElem_cons_succ, List.getElem_cons_zero, Act.put, List.setIfInBounds_toArray, List.set_cons_zero, List.set_cons_succ]
            refine wpAnyH_done (by kernel_rfl) ?_ _
            have B7 := Lib.hid (HBW.out.trans (hHeld.2.2.2.2.2.2.2.2.mono HBW.out.size))
            have B67 := Lib.hid (HBB.out.trans (hHeld.2.2.2.2.2.2.2.2.mono HBB.out.size))
            have BR7 := Lib.hid hHeld.2.2.2.2.2.2.2.2
            obtain ⟨x0, x1, y4, z0, z1, z2, z3, z4, -⟩ := hHeld
            clear p0 p1 p2 p3 p4 g0 g1 g2 g3 g4
            go_wp2_with fail
            refine Calls.mono (CNU.out _ (fit_flt HFU.out BR7.out)) ?_
            rintro e w8 ⟨⟨v, rfl, hrow, _⟩, hb⟩
            obtain ⟨bb, cb, rfl, hall⟩ := row_nms hrow HM3.out.2.2.1 HM3.out.2.2.2
            have B8 := Lib.hid (B67.out.trans (hb.mono B67.out.size))
            have BW8 := Lib.hid (B6.out.trans (B8.out.mono B6.out.size))
            have HMM := Lib.hid hall
            have HA8 := Lib.hid (HALL.out.fit B8.out B8.out.size)
            obtain ⟨M, hM⟩ : ∃ x, x = sortN (nms U) := ⟨_, rfl⟩
            have HIN := Lib.hid (show ∀ x ∈ M, x ∈ N by intro x hx; rw [hM, mem_sortN] at hx; rw [HNN.out, mem_sortN]; exact nms_part HUM.out hx)
            rw [← hM] at HMM ⊢
            obtain ⟨nb, hnb⟩ : ∃ x, x = M.length := ⟨_, rfl⟩
            have HNB := Lib.hid hnb
            have hnbb : nb ≤ 9223372036854775807 := by have := HMM.out.1; unfold maxLen at this; omega
            rw [← hnb]
            clear hb hrow hall hM hnb x0 x1 y4 z0 z1 z2 z3 z4
            go_wp2_with fail
            go_loopw [14] (fun vi wk => PaR nb w8 vi wk) (fun vi _ => nb - (intOf vi).toNat)
            case atStart => exact ⟨0, Nat.zero_le _, rfl, Below.refl _ _⟩
            case round =>
              obtain ⟨m, hk, rfl, hBK⟩ := hrel
              have HKM := Lib.hid hk
              have HBK := Lib.hid hBK
              clear hk hBK
              by_cases hmt : m < nb
              · have hmz : (m : Int) < (nb : Int) := by omega
                have hmu : m < M.length := by rw [← HNB.out]; exact hmt
                obtain ⟨h1, o1, hh1, hhl, hhc⟩ := HMM.out.2.2 (by omega)
                have HC1 := Lib.hid (hhc m hmu)
                obtain ⟨V, hV⟩ : ∃ V, V = M[m] := ⟨_, rfl⟩
                rw [← hV] at HC1
                have HVN := Lib.hid (show V ∈ N from HIN.out V (by rw [hV]; exact List.getElem_mem hmu))
                have hna0 : 0 < N.length := List.length_pos_iff.2 (fun h => by have := HVN.out; rw [h] at this; simp at this)
                obtain ⟨h2, o2, hh2, hhl2, hhc2⟩ := HA8.out.2.2 hna0
                have HC2 := Lib.hid hhc2
                obtain ⟨s1, q1, f1'⟩ := bs_bytes V
                rw [q1] at HC1
                have HS1 := Lib.hid f1'
                subst hh1 hh2
                have HLT1 := Lib.hid (show h1 < w8.heap.size from hhl)
                have HLT2 := Lib.hid (show h2 < w8.heap.size from hhl2)
                clear hhc hhc2 hV q1 f1' hhl hhl2 hna0
                go_wp2_with fail
                go_loopw [15, 16] (fun vm vi wk => MtR N V w8 vm vi wk) (fun _ vi _ => na - (intOf vi).toNat)
                case atStart => exact ⟨0, false, Nat.zero_le _, rfl, rfl, Lib.hid (by simp), HBK.out⟩
                case round =>
                  obtain ⟨i, mt, hk, rfl, rfl, hmm, hBK⟩ := hrel
                  have HKI := Lib.hid hk
                  have HMT := Lib.hid hmm.out
                  have HBI := Lib.hid hBK
                  clear hk hmm hBK
                  by_cases hit : i < na
                  · have hiz : (i : Int) < (na : Int) := by omega
                    have hiu : i < N.length := by rw [← HNA.out]; exact hit
                    have r1 := (HBI.out.cell (p := ⟨h1, o1 + m, none⟩) HLT1.out).trans HC1.out
                    have r2 := (HBI.out.cell (p := ⟨h2, o2 + i, none⟩) HLT2.out).trans (HC2.out i hiu)
                    obtain ⟨Z, hZ⟩ : ∃ V, V = N[i] := ⟨_, rfl⟩
                    have HZK := Lib.hid (show N[i]? = some Z by rw [hZ]; exact List.getElem?_eq_getElem hiu)
                    rw [← hZ] at r2
                    obtain ⟨s2, q2, f2'⟩ := bs_bytes Z
                    rw [q2] at r2
                    have HS2 := Lib.hid f2'
                    have HST := Lib.hid (met_step (x := V) HZK.out)
                    rw [← HMT.out] at HST
                    clear hZ q2 f2'
                    cases mt with
                    | true =>
                      go_wp2_with fail
                      go_big_quiet (fail)
                      all_goals
                        go_wp2_with fail
                        go_roundw
                        case rel => exact ⟨i + 1, true, by have := HNA.out; omega, by go_num, rfl, Lib.hid (by rw [HST.out]; simp), below_drewN HBI.out _⟩
                        case measure => simp [intOf]; omega
                    | false =>
                      by_cases he : s2.data.toList = s1.data.toList
                      · obtain rfl := eq_list he
                        have HEQ := Lib.hid (show Z = V by rw [← HS2.out, ← HS1.out])
                        clear he
                        go_wp2_with fail
                        go_big_quiet (fail)
                        all_goals
                          go_wp2_with fail
                          go_roundw
                          case rel => exact ⟨i + 1, true, by have := HNA.out; omega, by go_num, by first | rfl | simp, Lib.hid (by rw [HST.out, decide_eq_true HEQ.out]; simp), below_drewN HBI.out _⟩
                          case measure => simp [intOf]; omega
                      · obtain ⟨q0, q1, q2⟩ := ne_list he
                        have HEQ := Lib.hid (show ¬ Z = V by intro h; exact he (by rw [HS2.out, HS1.out, h]))
                        clear he
                        go_wp2_with fail
                        go_big_quiet (fail)
                        all_goals
                          go_wp2_with fail
                          go_roundw
                          case rel => exact ⟨i + 1, false, by have := HNA.out; omega, by go_num, by first | rfl | simp, Lib.hid (by rw [HST.out, decide_eq_false HEQ.out]; simp), below_drewN HBI.out _⟩
                          case measure => simp [intOf]; omega
                  · have hiz : ¬ (i : Int) < (na : Int) := by omega
                    obtain rfl : mt = true := by
                      rw [HMT.out, show i = N.length by have := HNA.out; have := HKI.out; omega, List.take_length]
                      exact decide_eq_true HVN.out
                    go_wp2_with fail
                    go_roundw
                    case rel => exact ⟨m + 1, by omega, by go_num, HBI.out⟩
                    case measure => simp [intOf]; omega
              · have hmz : ¬ (m : Int) < (nb : Int) := by omega
                go_wp2_with fail
                go_roundw
                case rel => exact ⟨j + 1, by omega, by go_num, B8.out.trans (HBK.out.mono B8.out.size)⟩
                case measure => simp [intOf]; omega
          · have hlz : ¬ (j : Int) < (np : Int) := by omega
            go_wp2_with fail
            go_ret
            exact ⟨rfl, HBW.out⟩
      · rw [h0, errV1] at CKF
        clear h0
        go_wp2_with fail
        rw [← HW4.out]
        refine Calls.mono CKF.out ?_
        rintro e w5 ⟨rfl, hb⟩
        have B5 := Lib.hid (B4.out.trans (hb.mono B4.out.size))
        clear hb p0 p1 p2 p3 p4
        go_wp2_with fail
        go_ret
        exact ⟨rfl, B5.out⟩
      · rw [h0, errV4] at CKF
        clear h0
        go_wp2_with fail
        rw [← HW4.out]
        refine Calls.mono CKF.out ?_
        rintro e w5 ⟨rfl, hb⟩
        have B5 := Lib.hid (B4.out.trans (hb.mono B4.out.size))
        clear hb p0 p1 p2 p3 p4
        go_wp2_with fail
        go_ret
        exact ⟨rfl, B5.out⟩
      · rw [h0, errV9] at CKF
        clear h0
        go_wp2_with fail
        rw [← HW4.out]
        refine Calls.mono CKF.out ?_
        rintro e w5 ⟨rfl, hb⟩
        have B5 := Lib.hid (B4.out.trans (hb.mono B4.out.size))
        clear hb p0 p1 p2 p3 p4
        go_wp2_with fail
        go_ret
        exact ⟨rfl, B5.out⟩
end Go.Proofs.YtmfkpoojfpepaaaGreatDoor.Ck
namespace Go.Proofs.YtmfkpoojfpepaaaGreatDoor.Ck
open Go.RowKit Go.ChangeShapes Go.WideShapes Go.Deep Go.Joins Go.Proofs.YtmfkpoojfpepaaaGreatDoor.Fl
set_option linter.unusedVariables false
set_option linter.unusedSectionVars false
section
variable {H : Type} {enc : TypeId × Value → H} {P : Program} {w : World} {base b0 : Nat} {spare : Nat → Bool} {held : Bool} {r : Reach} {v : Value} {d : DataW H} {p : List MemPlace}
theorem open_nmsV {t e : TypeId} (ht : P.underlying t = some (.slice e)) (he : P.underlying e = some .string) (hc : P.cellsOf e = 1) (hv : Value.okWide P w r b0 t v) (h : DataW.Trod enc P w base spare held t v d p) :
    ∃ (l : List Nm) (a : Option Addr) (c : Nat), v = .slice a l.length c ∧ NmsAt w (Old w.heap.size) a l := by
  obtain ⟨x, n, c, rfl⟩ := okWide_slice ht hv
  obtain ⟨fuel, hf⟩ := h
  obtain ⟨l, a, c', e, hq⟩ := open_nms ht he hc hf
  refine ⟨l, a, c', ?_, hq⟩
  simp [Value.cells] at e
  obtain ⟨rfl, rfl, rfl⟩ := e
  rfl
theorem open_blsV {t e : TypeId} (ht : P.underlying t = some (.slice e)) (he : P.underlying e = some .bool) (hc : P.cellsOf e = 1) (hv : Value.okWide P w r b0 t v) (h : DataW.Trod enc P w base spare held t v d p) :
    ∃ (l : List Bool) (a : Option Addr) (c : Nat), v = .slice a l.length c ∧ BlsAt w (Old w.heap.size) a l := by
  obtain ⟨x, n, c, rfl⟩ := okWide_slice ht hv
  obtain ⟨fuel, hf⟩ := h
  obtain ⟨l, a, c', e, hq⟩ := open_bls ht he hc hf
  refine ⟨l, a, c', ?_, hq⟩
  simp [Value.cells] at e
  obtain ⟨rfl, rfl, rfl⟩ := e
  rfl
theorem open_attsV {tF tA tL tVs : TypeId} {f0 f1 f2 f3 f4 a0 a1 a2 a3 : Field} (T : Types P tF tA tL tVs f0 f1 f2 f3 f4 a0 a1 a2 a3) (hv : Value.okWide P w r b0 tVs v) (h : DataW.Trod enc P w base spare held tVs v d p) :
    ∃ (l : List Att) (a : Option Addr) (c : Nat), v = .slice a l.length c ∧ AttsAt w (Old w.heap.size) a l := by
  obtain ⟨x, n, c, rfl⟩ := okWide_slice T.vals hv
  obtain ⟨fuel, hf⟩ := h
  obtain ⟨l, a, c', e, hq⟩ := open_atts T hf
  refine ⟨l, a, c', ?_, hq⟩
  simp [Value.cells] at e
  obtain ⟨rfl, rfl, rfl⟩ := e
  rfl
end
end Go.Proofs.YtmfkpoojfpepaaaGreatDoor.Ck
