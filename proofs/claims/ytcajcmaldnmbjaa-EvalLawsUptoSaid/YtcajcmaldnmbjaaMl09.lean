/-
  Contracts of the document's answers count and Few: is a filter small? Memory that was there is left as it was.
-/
import Derived.Test.YtcajcmaldnmbjaaMl08
namespace Go.Proofs.Ytcajcmaldnmbjaa.Fl
open Go.RowKit Go.Proofs.Ytcajcmaldnmbjaa.Tk
set_option linter.unusedVariables false
set_option linter.unusedSimpArgs false

/-- What count tells: of a filter that may be, but for its depth and its nodes, no more is left than its nodes leave. -/
def CntOk (f : Flt) : Prop := ∀ (a : Option Addr) (c : Nat) (b : Option Addr) (d : Nat) (m : Int) (w : World), FltAt w (Old w.heap.size) f a b →
  Calls Try.prog 12 #[.agg #[.int .i64 f.kind, bs f.name, bs f.op, .slice a f.vals.length c, .slice b f.parts.length d], .int .i64 m] w fun e w' => (∃ r : Int, e = .returned (.int .i64 r) ∧ (fine f = true → 0 ≤ m → m ≤ 5000 → -6000 ≤ r ∧ r ≤ 5000 ∧ (0 ≤ r → r + (sz f : Nat) ≤ m))) ∧ Below w.heap.size w w'
/-- Anything goes, or what is left is what the values leave. -/
def CvR (ok : Bool) (vs : List Att) (m : Int) (w : World) (vm vi : Value) (wr : World) : Prop :=
  ∃ (j : Nat) (x : Int), j ≤ vs.length ∧ vi = .int .i64 j ∧ vm = .int .i64 x ∧ Hid (ok = true → m - 24 - 201 * (j : Nat) ≤ x ∧ x ≤ m - 1) ∧ Below w.heap.size w wr
def CpR (ok : Bool) (ps : List Flt) (m : Int) (w : World) (vm vi : Value) (wr : World) : Prop :=
  ∃ (j : Nat) (x : Int), j ≤ ps.length ∧ vi = .int .i64 j ∧ vm = .int .i64 x ∧ Hid (ok = true → -6000 ≤ x ∧ x ≤ 5000 ∧ (0 ≤ x → x + 1 + (szL (ps.take j) : Nat) ≤ m)) ∧ Below w.heap.size w wr
theorem fine_small {k : Int} {nm o : List UInt8} {vs : List Att} {ps : List Flt} (h : fine (.mk k nm o vs ps) = true) : nm.length ≤ 20 ∧ o.length ≤ 2 ∧ vs.length ≤ 20 ∧ (∀ v ∈ vs, v.name.length = 0 ∧ v.str.length ≤ 200) ∧ ∀ q ∈ ps, fine q = true := by
  rw [fine_eq, Bool.and_eq_true] at h
  obtain ⟨h1, h2⟩ := h
  have hq : ∀ q ∈ ps, fine q = true := fun q hq => by
    have := List.all_eq_true.1 h2 q hq
    simp only [Bool.and_eq_true] at this
    exact this.2
  have hv : ∀ v : Att, valB v = true → v.name.length = 0 ∧ v.str.length ≤ 200 := fun v hv => by
    unfold valB at hv
    simp only [Bool.and_eq_true, beq_iff_eq] at hv
    refine ⟨by rw [hv.1]; rfl, ?_⟩
    cases ht : v.text
    · rw [ht] at hv
      simp at hv
      rw [hv.2]
      simp
    · rw [ht] at hv
      have := hv.2
      simp only [if_true, Bool.and_eq_true] at this
      have h9 := this.2
      rw [plainB_eq, Bool.and_eq_true, decide_eq_true_eq] at h9
      exact h9.2
  have bare : bareB nm o vs = true → nm.length ≤ 20 ∧ o.length ≤ 2 ∧ vs.length ≤ 20 ∧ (∀ v ∈ vs, v.name.length = 0 ∧ v.str.length ≤ 200) := fun hb => by
    unfold bareB at hb
    simp only [Bool.and_eq_true, beq_iff_eq, decide_eq_true_eq] at hb
    obtain ⟨⟨rfl, rfl⟩, h0⟩ := hb
    have := List.eq_nil_of_length_eq_zero h0
    subst this
    exact ⟨by simp, by simp, by simp, fun v hv => by simp at hv⟩
  have leaf : leafQ nm vs ps.length = true → nm.length ≤ 20 ∧ vs.length ≤ 20 ∧ (∀ v ∈ vs, v.name.length = 0 ∧ v.str.length ≤ 200) := fun hb => by
    unfold leafQ at hb
    simp only [Bool.and_eq_true, decide_eq_true_eq] at hb
    exact ⟨(name_short hb.1.1.2).1, hb.1.2, fun v hv' => hv v (List.all_eq_true.1 hb.2 v hv')⟩
  have opl : opB o = true → o.length ≤ 2 := fun ho => by
    simp only [opB, Bool.or_eq_true, beq_iff_eq] at ho
    rcases ho with ((((rfl | rfl) | rfl) | rfl) | rfl) | rfl <;> simp
  have fin : nm.length ≤ 20 ∧ o.length ≤ 2 ∧ vs.length ≤ 20 ∧ (∀ v ∈ vs, v.name.length = 0 ∧ v.str.length ≤ 200) := by
    unfold wholeB at h1
    split at h1
    · simp only [Bool.and_eq_true] at h1; exact bare h1.1
    split at h1
    · simp only [Bool.and_eq_true] at h1; exact bare h1.1
    split at h1
    · simp only [Bool.and_eq_true] at h1; exact bare h1.1
    split at h1
    · simp only [Bool.and_eq_true] at h1
      have := leaf h1.1.1
      exact ⟨this.1, opl h1.1.2, this.2⟩
    split at h1
    · simp only [Bool.and_eq_true, beq_iff_eq] at h1
      have := leaf h1.1.1.1
      exact ⟨this.1, by rw [h1.1.1.2]; simp, this.2⟩
    split at h1
    · simp only [Bool.and_eq_true, beq_iff_eq] at h1
      have := leaf h1.1.1.1
      exact ⟨this.1, by rw [h1.1.1.2]; simp, this.2⟩
    · cases h1
  exact ⟨fin.1, fin.2.1, fin.2.2.1, fin.2.2.2, hq⟩
set_option maxHeartbeats 8000000 in
set_option maxRecDepth 100000 in
theorem cnt_any (f : Flt) (ih : ∀ q ∈ f.parts, CntOk q) (a : Option Addr) (c : Nat) (b : Option Addr) (d : Nat) (m : Int) (w : World) (hF : FltAt w (Old w.heap.size) f a b) :
    Calls Try.prog 12 #[.agg #[.int .i64 f.kind, bs f.name, bs f.op, .slice a f.vals.length c, .slice b f.parts.length d], .int .i64 m] w fun e w' => (∃ r : Int, e = .returned (.int .i64 r)) ∧ Below w.heap.size w w' := by
  obtain ⟨k, nm, o, vs, ps⟩ := f
  simp only [Flt.kind, Flt.name, Flt.op, Flt.vals, Flt.parts] at ih ⊢
  obtain ⟨sn, en, hsn⟩ := bs_bytes nm
  obtain ⟨so, eo, hso⟩ := bs_bytes o
  rw [en, eo]
  have IH := Lib.hid ih
  have HA := Lib.hid hF.atts
  have HP := Lib.hid hF.parts
  simp only [Flt.vals] at HA
  simp only [Flt.parts] at HP
  have HSN := Lib.hid hsn
  have HSO := Lib.hid hso
  have hlen : ps.length ≤ 9223372036854775807 := by have := hF.small.2.2.2.2; simp only [Flt.parts] at this; unfold maxLen at this; omega
  have hvl : vs.length ≤ 9223372036854775807 := by have := hF.atts.1; simp only [Flt.vals] at this; unfold maxLen at this; omega
  obtain ⟨n, hn⟩ : ∃ n, n = vs.length := ⟨_, rfl⟩
  obtain ⟨l, hl⟩ : ∃ n, n = ps.length := ⟨_, rfl⟩
  have HN := Lib.hid hn
  have HL := Lib.hid hl
  rw [← hn] at hvl
  rw [← hl] at hlen
  rw [← hn, ← hl]
  clear ih hF en eo hsn hso hn hl
  obtain ⟨w1, hw1⟩ : ∃ v, v = w.alloc (.cells #[.int .i64 k, .string sn, .string so, .slice a n c, .slice b l d] 25) := ⟨_, rfl⟩
  have X1 := Lib.hid (show Box w1 w.heap.size (.int .i64 k) (.string sn) (.string so) (.slice a n c) (.slice b l d) by rw [hw1]; exact Box.new ..)
  have HB := Lib.hid (show Below w.heap.size w w1 by rw [hw1]; exact (Below.refl _ _).alloc (Nat.le_refl _) _)
  have HW := Lib.hid hw1
  clear hw1
  go_enter Try.func12, Try.ntmps12
  go_wp2_with fail
  rw [← HW.out]
  go_loopw [1, 5] (fun vm vi wr => CvR false vs m w1 vm vi wr) (fun _ vi _ => n - (intOf vi).toNat)
  case atStart => exact ⟨0, _, Nat.zero_le _, rfl, rfl, Lib.hid (by intro h; cases h), Below.refl _ _⟩
  case round =>
    obtain ⟨j, x, hk, rfl, rfl, hx, hBB⟩ := hrel
    have HK := Lib.hid hk
    have HBB := Lib.hid hBB
    have HBW := Lib.hid (HB.out.trans (hBB.mono HB.out.size))
    have X3 := Lib.hid (X1.out.later hBB)
    obtain ⟨p0, p1, p2, p3, p4⟩ := X3.out
    clear hk hBB
    by_cases hlt : j < n
    · have hlz : (j : Int) < (n : Int) := by omega
      have hku : j < vs.length := by rw [← HN.out]; exact hlt
      obtain ⟨g, o', hg, hgl, hc⟩ := (HA.out.later HBW.out).2.2 (by omega)
      obtain ⟨e0, e1, e2, e3⟩ := hc j hku
      obtain ⟨U, hU⟩ : ∃ V, V = vs[j] := ⟨_, rfl⟩
      rw [← hU] at e0 e1 e2 e3
      have HMEM := Lib.hid (show U ∈ vs by rw [hU]; exact List.getElem_mem hku)
      obtain ⟨s1, q1, f1⟩ := bs_bytes U.name
      obtain ⟨t1, q2, f2⟩ := bs_bytes U.str
      rw [q1] at e0
      rw [q2] at e3
      subst hg
      clear hc hU q1 q2 f1 f2 e1 e2 hgl
      go_wp2_with fail
      go_big_quiet (fail)
      all_goals
        go_wp2_with fail
        go_roundw
        case rel => exact ⟨j + 1, _, by have := HN.out; omega, by go_num, rfl, Lib.hid (by intro h; cases h), below_drewN HBB.out _⟩
        case measure => simp [intOf]; omega
    · have hlz : ¬ (j : Int) < (n : Int) := by omega
      obtain ⟨wb, hwb⟩ : ∃ v, v = wr := ⟨_, rfl⟩
      rw [← hwb] at HBB HBW p0 p1 p2 p3 p4 ⊢
      clear hwb HK p0 p1 p2
      go_wp2_with fail
      go_loopw [1, 6] (fun vm vi wr => CpR false ps m w1 vm vi wr) (fun _ vi _ => l - (intOf vi).toNat)
      case atStart => exact ⟨0, _, Nat.zero_le _, rfl, rfl, Lib.hid (by intro h; cases h), HBB.out⟩
      case round =>
        obtain ⟨j, y, hk, rfl, rfl, hy, hBB⟩ := hrel
        have HK := Lib.hid hk
        have HBC := Lib.hid hBB
        have HBW := Lib.hid (HB.out.trans (hBB.mono HB.out.size))
        have X3 := Lib.hid (X1.out.later hBB)
        obtain ⟨r0, r1, r2, r3, r4⟩ := X3.out
        clear hk hBB hlt hlz p3 p4
        by_cases hlt : j < l
        · have hlz : (j : Int) < (l : Int) := by omega
          by_cases hy0 : 0 ≤ y
          · have hyb : decide ((0 : Int) ≤ y) = true := decide_eq_true hy0
            have hku : j < ps.length := by rw [← HL.out]; exact hlt
            obtain ⟨g, o', a1, c1, b1, d1, hg, hgl, h5, hf⟩ := (HP.out.later HBW.out).get j hku
            obtain ⟨U, hU⟩ : ∃ V, V = ps[j] := ⟨_, rfl⟩
            rw [← hU] at h5 hf
            have HUK := Lib.hid (show ps[j]? = some U by rw [hU]; exact List.getElem?_eq_getElem hku)
            have CI := Lib.hid (fun W h1 => IH.out U (List.mem_of_getElem? HUK.out) a1 c1 b1 d1 y W h1)
            have HFU := Lib.hid hf
            have HGL := Lib.hid (show g < wr.heap.size from Nat.lt_of_lt_of_le hgl HBW.out.size)
            have hgw : g < wr.heap.size := HGL.out
            have hbw : w.heap.size < wr.heap.size := X3.out.lt
            subst hg
            obtain ⟨e0, e1, e2, e3, e4⟩ := h5
            rw [Nat.zero_add] at e0 e1 e2 e3 e4
            obtain ⟨un, hun, _⟩ := bs_bytes U.name
            obtain ⟨uo, huo, _⟩ := bs_bytes U.op
            rw [hun] at e1 CI
            rw [huo] at e2 CI
            obtain ⟨uk, huk⟩ : ∃ x, x = U.kind := ⟨_, rfl⟩
            obtain ⟨uv, huv⟩ : ∃ x, x = U.vals.length := ⟨_, rfl⟩
            obtain ⟨up, hup⟩ : ∃ x, x = U.parts.length := ⟨_, rfl⟩
            rw [← huk] at e0 CI
            rw [← huv] at e3 CI
            rw [← hup] at e4 CI
            have HUKD := Lib.hid huk
            have E0 := Lib.hid e0
            clear hU hf hgl hun huo huk huv hup
            have WA := Lib.hid (show ∀ W, Below w.heap.size wr W → FltAt W (Old W.heap.size) U a1 b1 from fun W hW => (HFU.out.later hW).wide (Nat.le_trans HBW.out.size hW.size))
            have HSTEP := Lib.hid (szL_step HUK.out)
            have HMEM := Lib.hid (List.mem_of_getElem? HUK.out)
            go_wp2_with (go_at_call 12; refine Calls.mono (CI.out _ (WA.out _ (Below.refl _ _))) ?_; rintro e w3 ⟨⟨r, rfl, hr⟩, hb⟩; have HR3 := Lib.hid hr; have HB3 := Lib.hid (HBC.out.trans (hb.mono HBC.out.size)); clear hb hr)
            go_roundw
            case rel => exact ⟨j + 1, r, by have := HL.out; omega, by go_num, rfl, Lib.hid (by intro h; cases h), HB3.out⟩
            case measure => simp [intOf]; omega
          · have hyb : decide ((0 : Int) ≤ y) = false := decide_eq_false hy0
            go_wp2_with fail
            go_ret
            exact ⟨⟨y, rfl⟩, HBW.out⟩
        · have hlz : ¬ (j : Int) < (l : Int) := by omega
          go_wp2_with fail
          go_ret
          exact ⟨⟨y, rfl⟩, HBW.out⟩
set_option maxHeartbeats 8000000 in
set_option maxRecDepth 100000 in
theorem cnt_good (f : Flt) (ih : ∀ q ∈ f.parts, CntOk q) (hfi : fine f = true) (a : Option Addr) (c : Nat) (b : Option Addr) (d : Nat) (m : Int) (hm0 : 0 ≤ m) (hm5 : m ≤ 5000) (w : World) (hF : FltAt w (Old w.heap.size) f a b) :
    Calls Try.prog 12 #[.agg #[.int .i64 f.kind, bs f.name, bs f.op, .slice a f.vals.length c, .slice b f.parts.length d], .int .i64 m] w fun e w' => (∃ r : Int, e = .returned (.int .i64 r) ∧ (fine f = true → 0 ≤ m → m ≤ 5000 → -6000 ≤ r ∧ r ≤ 5000 ∧ (0 ≤ r → r + (sz f : Nat) ≤ m))) ∧ Below w.heap.size w w' := by
  obtain ⟨k, nm, o, vs, ps⟩ := f
  simp only [Flt.kind, Flt.name, Flt.op, Flt.vals, Flt.parts] at ih ⊢
  obtain ⟨sn, en, hsn⟩ := bs_bytes nm
  obtain ⟨so, eo, hso⟩ := bs_bytes o
  rw [en, eo]
  have IH := Lib.hid ih
  have HA := Lib.hid hF.atts
  have HP := Lib.hid hF.parts
  simp only [Flt.vals] at HA
  simp only [Flt.parts] at HP
  have HSN := Lib.hid hsn
  have HSO := Lib.hid hso
  have hlen : ps.length ≤ 9223372036854775807 := by have := hF.small.2.2.2.2; simp only [Flt.parts] at this; unfold maxLen at this; omega
  have hvl : vs.length ≤ 9223372036854775807 := by have := hF.atts.1; simp only [Flt.vals] at this; unfold maxLen at this; omega
  obtain ⟨n, hn⟩ : ∃ n, n = vs.length := ⟨_, rfl⟩
  obtain ⟨l, hl⟩ : ∃ n, n = ps.length := ⟨_, rfl⟩
  have HN := Lib.hid hn
  have HL := Lib.hid hl
  rw [← hn] at hvl
  rw [← hl] at hlen
  have HSM := Lib.hid (fine_small hfi)
  have hsn20 : sn.size ≤ 20 := by rw [Lib.size_eq, hsn]; exact HSM.out.1
  have hso2 : so.size ≤ 2 := by rw [Lib.size_eq, hso]; exact HSM.out.2.1
  have HN20 := Lib.hid (show n ≤ 20 by rw [hn]; exact HSM.out.2.2.1)
  rw [← hn, ← hl]
  clear ih hF en eo hsn hso hn hl hfi
  obtain ⟨w1, hw1⟩ : ∃ v, v = w.alloc (.cells #[.int .i64 k, .string sn, .string so, .slice a n c, .slice b l d] 25) := ⟨_, rfl⟩
  have X1 := Lib.hid (show Box w1 w.heap.size (.int .i64 k) (.string sn) (.string so) (.slice a n c) (.slice b l d) by rw [hw1]; exact Box.new ..)
  have HB := Lib.hid (show Below w.heap.size w w1 by rw [hw1]; exact (Below.refl _ _).alloc (Nat.le_refl _) _)
  have HW := Lib.hid hw1
  clear hw1
  go_enter Try.func12, Try.ntmps12
  go_wp2_with fail
  rw [← HW.out]
  go_loopw [1, 5] (fun vm vi wr => CvR true vs m w1 vm vi wr) (fun _ vi _ => n - (intOf vi).toNat)
  case atStart => exact ⟨0, _, Nat.zero_le _, rfl, rfl, Lib.hid (by intro _; omega), Below.refl _ _⟩
  case round =>
    obtain ⟨j, x, hk, rfl, rfl, hx, hBB⟩ := hrel
    have HK := Lib.hid hk
    have HBB := Lib.hid hBB
    have HBW := Lib.hid (HB.out.trans (hBB.mono HB.out.size))
    have X3 := Lib.hid (X1.out.later hBB)
    obtain ⟨p0, p1, p2, p3, p4⟩ := X3.out
    clear hk hBB
    by_cases hlt : j < n
    · have hlz : (j : Int) < (n : Int) := by omega
      have hku : j < vs.length := by rw [← HN.out]; exact hlt
      obtain ⟨g, o', hg, hgl, hc⟩ := (HA.out.later HBW.out).2.2 (by omega)
      obtain ⟨e0, e1, e2, e3⟩ := hc j hku
      obtain ⟨U, hU⟩ : ∃ V, V = vs[j] := ⟨_, rfl⟩
      rw [← hU] at e0 e1 e2 e3
      have HMEM := Lib.hid (show U ∈ vs by rw [hU]; exact List.getElem_mem hku)
      obtain ⟨s1, q1, f1⟩ := bs_bytes U.name
      obtain ⟨t1, q2, f2⟩ := bs_bytes U.str
      rw [q1] at e0
      rw [q2] at e3
      subst hg
      have hs0 : s1.size = 0 := by rw [Lib.size_eq, f1]; exact (HSM.out.2.2.2.1 U HMEM.out).1
      have ht0 : t1.size ≤ 200 := by rw [Lib.size_eq, f2]; exact (HSM.out.2.2.2.1 U HMEM.out).2
      have hxb : -6000 ≤ x ∧ x ≤ 5000 := by have := hx.out (by first | rfl | trivial); have := HN20.out; omega
      have HX := Lib.hid (show m - 24 - 201 * ((j + 1 : Nat) : Int) ≤ x - 1 - (t1.size : Int) ∧ x - 1 - (t1.size : Int) ≤ m - 1 by have := hx.out (by first | rfl | trivial); omega)
      clear hc hU q1 q2 f1 f2 e1 e2 hgl
      go_wp2_with fail
      go_big_quiet (fail)
      all_goals
        go_wp2_with fail
        go_roundw
        case rel => exact ⟨j + 1, _, by have := HN.out; omega, by go_num, rfl, Lib.hid (by intro _; have := HX.out; first | exact this | (simp only [hs0]; omega) | omega), below_drewN HBB.out _⟩
        case measure => simp [intOf]; omega
    · have hlz : ¬ (j : Int) < (n : Int) := by omega
      have hxb : -6000 ≤ x ∧ x ≤ 5000 ∧ x ≤ m - 1 := by have := hx.out (by first | rfl | trivial); have := HN20.out; have := HK.out; have := HN.out; omega
      obtain ⟨wb, hwb⟩ : ∃ v, v = wr := ⟨_, rfl⟩
      rw [← hwb] at HBB HBW p0 p1 p2 p3 p4 ⊢
      clear hwb HK p0 p1 p2
      go_wp2_with fail
      go_loopw [1, 6] (fun vm vi wr => CpR true ps m w1 vm vi wr) (fun _ vi _ => l - (intOf vi).toNat)
      case atStart => exact ⟨0, _, Nat.zero_le _, rfl, rfl, Lib.hid (by intro _; simp [szL]; omega), HBB.out⟩
      case round =>
        obtain ⟨j, y, hk, rfl, rfl, hy, hBB⟩ := hrel
        have HK := Lib.hid hk
        have HBC := Lib.hid hBB
        have HBW := Lib.hid (HB.out.trans (hBB.mono HB.out.size))
        have X3 := Lib.hid (X1.out.later hBB)
        obtain ⟨r0, r1, r2, r3, r4⟩ := X3.out
        clear hk hBB hlt hlz p3 p4
        by_cases hlt : j < l
        · have hlz : (j : Int) < (l : Int) := by omega
          by_cases hy0 : 0 ≤ y
          · have hyb : decide ((0 : Int) ≤ y) = true := decide_eq_true hy0
            have hku : j < ps.length := by rw [← HL.out]; exact hlt
            obtain ⟨g, o', a1, c1, b1, d1, hg, hgl, h5, hf⟩ := (HP.out.later HBW.out).get j hku
            obtain ⟨U, hU⟩ : ∃ V, V = ps[j] := ⟨_, rfl⟩
            rw [← hU] at h5 hf
            have HUK := Lib.hid (show ps[j]? = some U by rw [hU]; exact List.getElem?_eq_getElem hku)
            have CI := Lib.hid (fun W h1 => IH.out U (List.mem_of_getElem? HUK.out) a1 c1 b1 d1 y W h1)
            have HFU := Lib.hid hf
            have HGL := Lib.hid (show g < wr.heap.size from Nat.lt_of_lt_of_le hgl HBW.out.size)
            have hgw : g < wr.heap.size := HGL.out
            have hbw : w.heap.size < wr.heap.size := X3.out.lt
            subst hg
            obtain ⟨e0, e1, e2, e3, e4⟩ := h5
            rw [Nat.zero_add] at e0 e1 e2 e3 e4
            obtain ⟨un, hun, _⟩ := bs_bytes U.name
            obtain ⟨uo, huo, _⟩ := bs_bytes U.op
            rw [hun] at e1 CI
            rw [huo] at e2 CI
            obtain ⟨uk, huk⟩ : ∃ x, x = U.kind := ⟨_, rfl⟩
            obtain ⟨uv, huv⟩ : ∃ x, x = U.vals.length := ⟨_, rfl⟩
            obtain ⟨up, hup⟩ : ∃ x, x = U.parts.length := ⟨_, rfl⟩
            rw [← huk] at e0 CI
            rw [← huv] at e3 CI
            rw [← hup] at e4 CI
            have HUKD := Lib.hid huk
            have E0 := Lib.hid e0
            clear hU hf hgl hun huo huk huv hup
            have WA := Lib.hid (show ∀ W, Below w.heap.size wr W → FltAt W (Old W.heap.size) U a1 b1 from fun W hW => (HFU.out.later hW).wide (Nat.le_trans HBW.out.size hW.size))
            have HSTEP := Lib.hid (szL_step HUK.out)
            have HMEM := Lib.hid (List.mem_of_getElem? HUK.out)
            go_wp2_with (go_at_call 12; refine Calls.mono (CI.out _ (WA.out _ (Below.refl _ _))) ?_; rintro e w3 ⟨⟨r, rfl, hr⟩, hb⟩; have HR3 := Lib.hid hr; have HB3 := Lib.hid (HBC.out.trans (hb.mono HBC.out.size)); clear hb hr)
            go_roundw
            case rel => exact ⟨j + 1, r, by have := HL.out; omega, by go_num, rfl, Lib.hid (by 
                intro _
                have h1 := hy.out (by first | rfl | trivial)
                have h2 := HR3.out (HSM.out.2.2.2.2 U HMEM.out) hy0 h1.2.1
                rw [HSTEP.out]
                refine ⟨h2.1, h2.2.1, fun h0 => ?_⟩
                have h3 := h2.2.2 h0
                have h4 := h1.2.2 hy0
                omega), HB3.out⟩
            case measure => simp [intOf]; omega
          · have hyb : decide ((0 : Int) ≤ y) = false := decide_eq_false hy0
            go_wp2_with fail
            go_ret
            exact ⟨⟨y, rfl, by intros; have := hy.out (by first | rfl | trivial); exact ⟨this.1, this.2.1, fun h => absurd h (by omega)⟩⟩, HBW.out⟩
        · have hlz : ¬ (j : Int) < (l : Int) := by omega
          go_wp2_with fail
          go_ret
          exact ⟨⟨y, rfl, by
            intros
            have := hy.out (by first | rfl | trivial)
            rw [show j = ps.length by have := HL.out; have := HK.out; omega, List.take_length] at this
            refine ⟨this.1, this.2.1, fun h => ?_⟩
            have := this.2.2 h
            rw [sz]
            omega⟩, HBW.out⟩
theorem cnt_ok (f : Flt) (ih : ∀ q ∈ f.parts, CntOk q) : CntOk f := by
  intro a c b d m w hF
  by_cases h : fine f = true ∧ 0 ≤ m ∧ m ≤ 5000
  · exact cnt_good f ih h.1 a c b d m h.2.1 h.2.2 w hF
  · refine (cnt_any f ih a c b d m w hF).mono ?_
    rintro e w1 ⟨⟨r, rfl⟩, hb⟩
    exact ⟨⟨r, rfl, fun h1 h2 h3 => absurd ⟨h1, h2, h3⟩ h⟩, hb⟩
theorem cnt_all : ∀ (N : Nat) (f : Flt), sz f ≤ N → CntOk f
  | 0, f, h => by have := sz_pos f; omega
  | N + 1, f, h => cnt_ok f fun q hq => cnt_all N q (by
      cases f
      simp only [Flt.parts] at hq
      have := sz_mem hq
      rw [sz] at h
      omega)
/-- Few: of a small filter that may be, but for its depth and its nodes, the nodes are few. -/
theorem few_any (f : Flt) (a : Option Addr) (c : Nat) (b : Option Addr) (d : Nat) (w : World) (hF : FltAt w (Old w.heap.size) f a b) :
    Calls Try.prog 6 #[.agg #[.int .i64 f.kind, bs f.name, bs f.op, .slice a f.vals.length c, .slice b f.parts.length d]] w fun e w' => (∃ r : Bool, e = .returned (.bool r) ∧ (r = true → fine f = true → sz f ≤ 5000)) ∧ Below w.heap.size w w' := by
  have CC := Lib.hid (fun W h => cnt_all (sz f) f (Nat.le_refl _) a c b d 5000 W h)
  obtain ⟨sn, en, _⟩ := bs_bytes f.name
  obtain ⟨so, eo, _⟩ := bs_bytes f.op
  rw [en, eo] at CC ⊢
  have HF := Lib.hid hF
  obtain ⟨k, hqk⟩ : ∃ x, x = f.kind := ⟨_, rfl⟩
  obtain ⟨n, hqv⟩ : ∃ x, x = f.vals.length := ⟨_, rfl⟩
  obtain ⟨l, hqp⟩ : ∃ x, x = f.parts.length := ⟨_, rfl⟩
  rw [← hqk, ← hqv, ← hqp] at CC ⊢
  clear en eo hF hqk hqv hqp
  obtain ⟨w1, hw1⟩ : ∃ v, v = w.alloc (.cells #[.int .i64 k, .string sn, .string so, .slice a n c, .slice b l d] 25) := ⟨_, rfl⟩
  have X1 := Lib.hid (show Box w1 w.heap.size (.int .i64 k) (.string sn) (.string so) (.slice a n c) (.slice b l d) by rw [hw1]; exact Box.new ..)
  have HB := Lib.hid (show Below w.heap.size w w1 by rw [hw1]; exact (Below.refl _ _).alloc (Nat.le_refl _) _)
  have HW := Lib.hid hw1
  clear hw1
  go_enter Try.func6, Try.ntmps6
  go_wp2_with fail
  rw [← HW.out]
  refine Calls.mono (CC.out _ (HF.out.fit HB.out)) ?_
  rintro e w2 ⟨⟨r, rfl, hr⟩, hb⟩
  have HR := Lib.hid hr
  have HB2 := Lib.hid (HB.out.trans (hb.mono HB.out.size))
  clear hb hr
  by_cases h0 : 0 ≤ r
  · have h0b : decide ((0 : Int) ≤ r) = true := decide_eq_true h0
    go_wp2_with fail
    go_ret
    exact ⟨⟨true, rfl, fun _ h => by have h1 := HR.out h (by omega) (by omega); have h2 := h1.2.2 h0; omega⟩, HB2.out⟩
  · have h0b : decide ((0 : Int) ≤ r) = false := decide_eq_false h0
    go_wp2_with fail
    go_ret
    exact ⟨⟨false, rfl, fun h => by cases h⟩, HB2.out⟩
end Go.Proofs.Ytcajcmaldnmbjaa.Fl
