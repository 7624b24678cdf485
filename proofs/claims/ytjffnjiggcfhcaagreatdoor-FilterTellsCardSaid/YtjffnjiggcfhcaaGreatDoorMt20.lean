/-
  Contract of Show of the document's answer: a filter's text, to any depth. Memory that was there is left as it was.
-/
import Derived.Test.YtjffnjiggcfhcaaGreatDoorMt11
import Derived.Test.YtjffnjiggcfhcaaGreatDoorMt15
import Derived.Test.YtjffnjiggcfhcaaGreatDoorMt17
import Derived.Deep.RegionHeld3
namespace Go.Proofs.YtjffnjiggcfhcaaGreatDoor.Fl
open Go.RowKit Go.Proofs.YtjffnjiggcfhcaaGreatDoor.Tk
set_option linter.unusedVariables false
set_option linter.unusedSimpArgs false

def ShowOk (f : Flt) : Prop := ∀ (a : Option Addr) (c : Nat) (b : Option Addr) (d : Nat) (w : World), LaidT w → FltAt w (Old w.heap.size) f a b → fine f = true → sz f ≤ 100 →
  Calls Tryz.prog 12 #[.agg #[.int .i64 f.kind, bs f.name, bs f.op, .slice a f.vals.length c, .slice b f.parts.length d]] w fun e w' => e = .returned (.string ⟨(showF f).toArray⟩) ∧ Below w.heap.size w w'
/-- Texts with a word between them. -/
def outR (wd : List UInt8) : List (List UInt8) → List UInt8
  | [] => []
  | x :: r => wd ++ (x ++ outR wd r)
def outJ (wd : List UInt8) : List (List UInt8) → List UInt8
  | [] => []
  | x :: r => x ++ outR wd r
theorem outR_snoc (wd x : List UInt8) : ∀ l, outR wd (l ++ [x]) = outR wd l ++ (wd ++ x)
  | [] => by simp [outR]
  | y :: r => by
    rw [List.cons_append, outR, outR, outR_snoc wd x r]
    simp only [List.append_assoc]
theorem outJ_step {α : Type} (wd : List UInt8) (g : α → List UInt8) {qs : List α} {j : Nat} {q : α} (h : qs[j]? = some q) :
    outJ wd ((qs.take (j + 1)).map g) = if j = 0 then g q else outJ wd ((qs.take j).map g) ++ (wd ++ g q) := by
  rw [List.take_add_one, h]
  cases qs with
  | nil => simp at h
  | cons y r =>
    cases j with
    | zero =>
      simp at h
      subst h
      simp [outJ, outR]
    | succ j =>
      rw [if_neg (by omega), List.take_succ_cons]
      simp only [List.map_append, List.map_cons, List.cons_append, outJ, Option.toList_some, List.map_nil]
      rw [outR_snoc]
      simp only [List.append_assoc]
theorem outJ_vs (v : Att) (vs : List Att) : outJ [44, 32] ((v :: vs).map showV) = showV v ++ showVs vs := by
  rw [List.map_cons, outJ]
  congr 1
  induction vs with
  | nil => rfl
  | cons u r ih => rw [List.map_cons, outR, showVs, ih]; rfl
theorem outJ_parts (wd : List UInt8) (p : Flt) (ps : List Flt) : outJ (32 :: (wd ++ [32])) ((p :: ps).map showP) = showP p ++ showR wd ps := by
  rw [List.map_cons, outJ]
  congr 1
  induction ps with
  | nil => simp [outR, showR]
  | cons u r ih => rw [List.map_cons, outR, showR, ih]; simp
theorem outR_len {α : Type} {wd : List UInt8} {g : α → List UInt8} {B : Nat} (hw : wd.length ≤ 5) : ∀ {l : List α}, (∀ q ∈ l, (g q).length ≤ B) → (outR wd (l.map g)).length ≤ (B + 5) * l.length
  | [], _ => by simp [outR]
  | y :: r, h => by
    have h1 := h y (List.mem_cons_self ..)
    have h2 := outR_len hw (l := r) fun q hq => h q (List.mem_cons_of_mem _ hq)
    simp only [List.map_cons, outR, List.length_append, List.length_cons, Nat.mul_add, Nat.mul_one]
    omega
theorem outJ_len {α : Type} {wd : List UInt8} {g : α → List UInt8} {B : Nat} (hw : wd.length ≤ 5) {l : List α} (h : ∀ q ∈ l, (g q).length ≤ B) : (outJ wd (l.map g)).length ≤ (B + 5) * l.length := by
  have h2 := outR_len hw h
  cases l with
  | nil => simp [outJ]
  | cons y r =>
    simp only [List.map_cons, outR, outJ, List.length_append] at h2 ⊢
    omega
theorem outJ_take_len {α : Type} {wd : List UInt8} {g : α → List UInt8} {B : Nat} (hw : wd.length ≤ 5) {l : List α} (h : ∀ q ∈ l, (g q).length ≤ B) (j : Nat) : (outJ wd ((l.take j).map g)).length ≤ (B + 5) * l.length := by
  have h1 := outJ_len hw (l := l.take j) fun q hq => h q (List.mem_of_mem_take hq)
  have h2 : (B + 5) * (l.take j).length ≤ (B + 5) * l.length := Nat.mul_le_mul_left _ (by rw [List.length_take]; omega)
  omega
def ShR (wd : List UInt8) (qs : List Flt) (w1 : World) (vo vi : Value) (wr : World) : Prop :=
  ∃ (j : Nat) (co : ByteArray), j ≤ qs.length ∧ vo = .string co ∧ vi = .int .i64 j ∧ co.data.toList = outJ wd ((qs.take j).map showP) ∧ Below w1.heap.size w1 wr
def ShV (pre : List UInt8) (vs : List Att) (w1 : World) (vo vi : Value) (wr : World) : Prop :=
  ∃ (j : Nat) (co : ByteArray), j ≤ vs.length ∧ vo = .string co ∧ vi = .int .i64 j ∧ co.data.toList = pre ++ outJ [44, 32] ((vs.take j).map showV) ∧ Below w1.heap.size w1 wr
theorem showP_eq (p : Flt) : showP p = if p.kind = 1 ∨ p.kind = 2 then 40 :: (showF p ++ [41]) else showF p := by
  cases p
  rw [showP]
  rfl
set_option maxHeartbeats 16000000 in
set_option maxRecDepth 100000 in
theorem show1 (sn so : ByteArray) (vs : List Att) (ps : List Flt) (a : Option Addr) (c : Nat) (b : Option Addr) (d : Nat) (w : World) (hT : LaidT w) (hP : PartsAt w (Old w.heap.size) b 0 ps) (ih : ∀ q ∈ ps, ShowOk q) (hfp : ∀ q ∈ ps, fine q = true) (h5 : szL ps ≤ 99) (h0 : 0 < ps.length) (hv0 : vs = []) : Calls Tryz.prog 12 #[.agg #[.int .i64 1, .string sn, .string so, .slice a vs.length c, .slice b ps.length d]] w fun e w' => e = .returned (.string ⟨(showF (.mk 1 sn.data.toList so.data.toList vs ps)).toArray⟩) ∧ Below w.heap.size w w' := by
  subst hv0
  have HT := Lib.hid hT
  have HP := Lib.hid hP
  have IH := Lib.hid ih
  have HFP := Lib.hid hfp
  have HS5 := Lib.hid (show ∀ q ∈ ps, sz q ≤ 99 from fun q hq => Nat.le_trans (sz_mem hq) h5)
  have HRG := Lib.hid (show ∀ q ∈ ps, rng q from fun q hq => rng_mem (PartsAt.rng _ hP) q hq)
  have HSH := Lib.hid (show ∀ q ∈ ps, (showF q).length ≤ 501000 from fun q hq => show_size (hfp q hq) (HRG.out q hq) (by have := HS5.out q hq; omega))
  have HSP := Lib.hid (show ∀ q ∈ ps, (showP q).length ≤ 501002 from fun q hq => by have := HSH.out q hq; have := showP_le q; omega)
  have hl99 : ps.length ≤ 99 := Nat.le_trans (by
    have : ∀ m : List Flt, m.length ≤ szL m := by
      intro m
      induction m with
      | nil => simp [szL]
      | cons q r ihr => have := sz_pos q; simp only [szL, List.length_cons]; omega
    exact this ps) h5
  have HCO := Lib.hid (show ∀ j, (outJ (32 :: (wAnd ++ [32])) ((ps.take j).map showP)).length ≤ 50000000 from fun j => by
    have h1 := outJ_take_len (wd := (32 :: (wAnd ++ [32]))) (by decide) HSP.out j
    have h2 : (501002 + 5) * ps.length ≤ (501002 + 5) * 99 := Nat.mul_le_mul_left _ hl99
    omega)
  obtain ⟨res, hres⟩ : ∃ x : ByteArray, x = ⟨(showF (.mk 1 sn.data.toList so.data.toList [] ps)).toArray⟩ := ⟨_, rfl⟩
  have HR := Lib.hid (show res.data.toList = outJ (32 :: (wAnd ++ [32])) (ps.map showP) by
    rw [hres]
    match ps, h0 with
    | p :: r, _ => rw [outJ_parts]; simp [showF, andOr])
  rw [← hres]
  obtain ⟨l, hl⟩ : ∃ n, n = ps.length := ⟨_, rfl⟩
  have HL := Lib.hid hl
  rw [← hl] at hl99 h0 ⊢
  simp only [List.length_nil]
  clear hT hP ih hfp h5 hres hl
  obtain ⟨w1, hw1⟩ : ∃ v, v = w.alloc (.cells #[.int .i64 1, .string sn, .string so, .slice a 0 c, .slice b l d] 25) := ⟨_, rfl⟩
  have X1 := Lib.hid (show Box w1 w.heap.size (.int .i64 1) (.string sn) (.string so) (.slice a 0 c) (.slice b l d) by rw [hw1]; exact Box.new ..)
  have HB := Lib.hid (show Below w.heap.size w w1 by rw [hw1]; exact (Below.refl _ _).alloc (Nat.le_refl _) _)
  have HW := Lib.hid hw1
  clear hw1
  go_enter Tryz.func12, Tryz.ntmps12
  go_wp2_with fail
  rw [← HW.out]
  go_loopw [7, 8] (fun vo vi wr => ShR (32 :: (wAnd ++ [32])) ps w1 vo vi wr) (fun _ vi _ => l - (intOf vi).toNat)
  case atStart => exact ⟨0, ⟨#[]⟩, Nat.zero_le _, rfl, rfl, rfl, Below.refl _ _⟩
  case round =>
    obtain ⟨j, co, hk, rfl, rfl, hco, hBB⟩ := hrel
    have HK := Lib.hid hk
    have HC := Lib.hid hco
    have hcl : co.size ≤ 50000000 := by rw [Lib.size_eq, hco]; exact HCO.out j
    have HBB := Lib.hid hBB
    have HBW := Lib.hid (HB.out.trans (hBB.mono HB.out.size))
    have X3 := Lib.hid (X1.out.later hBB)
    obtain ⟨p0', p1, p2, p3, p4⟩ := X3.out
    clear hk hco hBB
    by_cases hlt : j < l
    · have hlz : (j : Int) < (l : Int) := by omega
      have hku : j < ps.length := by rw [← HL.out]; exact hlt
      obtain ⟨g, o', a1, c1, b1, d1, hg, hgl, h5, hf⟩ := (HP.out.later HBW.out).get j hku
      obtain ⟨U, hU⟩ : ∃ V, V = ps[j] := ⟨_, rfl⟩
      rw [← hU] at h5 hf
      have HUK := Lib.hid (show ps[j]? = some U by rw [hU]; exact List.getElem?_eq_getElem hku)
      have CI := Lib.hid (fun W h1 h2 => IH.out U (List.mem_of_getElem? HUK.out) a1 c1 b1 d1 W h1 h2 (HFP.out U (List.mem_of_getElem? HUK.out)) (by have := HS5.out U (List.mem_of_getElem? HUK.out); omega))
      have HFU := Lib.hid hf
      have HGL := Lib.hid (show g < wr.heap.size from Nat.lt_of_lt_of_le hgl HBW.out.size)
      have hgw : g < wr.heap.size := HGL.out
      have hbw : w.heap.size < wr.heap.size := X3.out.lt
      subst hg
      obtain ⟨e0, e1, e2, e3, e4⟩ := h5
      rw [Nat.zero_add] at e0 e1 e2 e3 e4
      obtain ⟨un, hun, _⟩ := bs_bytes U.name
      obtain ⟨uo, huo, _⟩ := bs_bytes U.op
      rw [hun] at e1 CI
      rw [huo] at e2 CI
      obtain ⟨uk, huk⟩ : ∃ x, x = U.kind := ⟨_, rfl⟩
      obtain ⟨uv, huv⟩ : ∃ x, x = U.vals.length := ⟨_, rfl⟩
      obtain ⟨up, hup⟩ : ∃ x, x = U.parts.length := ⟨_, rfl⟩
      rw [← huk] at e0 CI
      rw [← huv] at e3 CI
      rw [← hup] at e4 CI
      have HUKD := Lib.hid huk
      have E0 := Lib.hid e0
      clear hU hf hgl hun huo huk huv hup
      have WA := Lib.hid (show ∀ W, Below w.heap.size wr W → FltAt W (Old W.heap.size) U a1 b1 from fun W hW => (HFU.out.later hW).wide (Nat.le_trans HBW.out.size hW.size))
      obtain ⟨st, hst⟩ : ∃ x : ByteArray, x = ⟨(showF U).toArray⟩ := ⟨_, rfl⟩
      have hsl : st.size ≤ 501000 := by rw [hst, bytes_size]; exact HSH.out U (List.mem_of_getElem? HUK.out)
      rw [← hst] at CI
      have HST := Lib.hid (show st.data.toList = showF U by rw [hst])
      have HSTEP := Lib.hid (outJ_step (32 :: (wAnd ++ [32])) showP HUK.out)
      have z1 : ¬ 9223372036854775807 < co.size + 5 := by omega
      have z2 : ¬ 9223372036854775807 < co.size + 5 + st.size := by omega
      have z3 : ¬ 9223372036854775807 < co.size + st.size := by omega
      have z4 : ¬ 9223372036854775807 < 1 + st.size := by omega
      have z5 : ¬ 9223372036854775807 < 1 + st.size + 1 := by omega
      have z6 : ¬ 9223372036854775807 < co.size + 5 + (1 + st.size + 1) := by omega
      have z7 : ¬ 9223372036854775807 < co.size + (1 + st.size + 1) := by omega
      clear hst
      by_cases hj0 : j = 0
      · skip
        subst hj0
        have hgz : ¬ ((0 : Nat) : Int) > 0 := by omega
        have hgb : decide (((0 : Nat) : Int) > 0) = false := decide_eq_false hgz
        simp only [Nat.zero_mul, Nat.add_zero] at e0 e1 e2 e3 e4
        have E0 := Lib.hid e0
        go_wp2_with fail
        refine Calls.mono (CI.out _ (HT.out.later HBW.out) (WA.out _ (Below.refl _ _))) ?_
        rintro e w3 ⟨rfl, hb⟩
        have HB3 := Lib.hid (HBB.out.trans (hb.mono HBB.out.size))
        obtain ⟨q0, q1, q2, q3, q4⟩ := X3.out.later hb
        have f0 : w3.cell? ⟨g, o', none⟩ = some (.int .i64 uk) := (hb.cell (p := ⟨g, o', none⟩) HGL.out).trans E0.out
        have hgw3 : g < w3.heap.size := Nat.lt_of_lt_of_le HGL.out hb.size
        have hbw3 : w.heap.size < w3.heap.size := Nat.lt_of_lt_of_le X3.out.lt hb.size
        clear hb
        by_cases hu1 : uk = 1
        · have hu1d : True := trivial
          subst hu1
          go_wp2_with fail
          go_roundw
          case rel => first | exact ⟨0 + 1, _, by have := HL.out; omega, rfl, by go_num, (by rw [HSTEP.out, if_pos trivial, show showP U = 40 :: (showF U ++ [41]) from by rw [showP_eq, ← HUKD.out]; simp]; simp [HST.out, HC.out, wAnd, outJ]), HB3.out⟩ | ((repeat apply Exists.intro); exact ⟨⟨0 + 1, _, by have := HL.out; omega, rfl, by go_num, (by rw [HSTEP.out, if_pos trivial, show showP U = 40 :: (showF U ++ [41]) from by rw [showP_eq, ← HUKD.out]; simp]; simp [HST.out, HC.out, wAnd, outJ]), HB3.out⟩, rfl⟩)
          case measure => simp [intOf]; omega
        by_cases hu2 : uk = 2
        · have hu1d : True := trivial
          subst hu2
          go_wp2_with fail
          go_roundw
          case rel => first | exact ⟨0 + 1, _, by have := HL.out; omega, rfl, by go_num, (by rw [HSTEP.out, if_pos trivial, show showP U = 40 :: (showF U ++ [41]) from by rw [showP_eq, ← HUKD.out]; simp]; simp [HST.out, HC.out, wAnd, outJ]), HB3.out⟩ | ((repeat apply Exists.intro); exact ⟨⟨0 + 1, _, by have := HL.out; omega, rfl, by go_num, (by rw [HSTEP.out, if_pos trivial, show showP U = 40 :: (showF U ++ [41]) from by rw [showP_eq, ← HUKD.out]; simp]; simp [HST.out, HC.out, wAnd, outJ]), HB3.out⟩, rfl⟩)
          case measure => simp [intOf]; omega
        have hu1b : (uk == 1) = false := by rw [beq_eq_false_iff_ne]; exact hu1
        have hu2b : (uk == 2) = false := by rw [beq_eq_false_iff_ne]; exact hu2
        have hu1d : decide (uk = 1) = false := decide_eq_false hu1
        have hu2d : decide (uk = 2) = false := decide_eq_false hu2
        go_wp2_with fail
        go_roundw
        case rel => first | exact ⟨0 + 1, _, by have := HL.out; omega, rfl, by go_num, (by rw [HSTEP.out, if_pos trivial, show showP U = showF U from by rw [showP_eq, ← HUKD.out, if_neg (by omega)]]; simp [HST.out, HC.out, wAnd, outJ]), HB3.out⟩ | ((repeat apply Exists.intro); exact ⟨⟨0 + 1, _, by have := HL.out; omega, rfl, by go_num, (by rw [HSTEP.out, if_pos trivial, show showP U = showF U from by rw [showP_eq, ← HUKD.out, if_neg (by omega)]]; simp [HST.out, HC.out, wAnd, outJ]), HB3.out⟩, rfl⟩)
        case measure => simp [intOf]; omega
      · skip
        have hgz : (j : Int) > 0 := by omega
        have hgb : decide ((j : Int) > 0) = true := decide_eq_true hgz
        have E0 := Lib.hid e0
        go_wp2_with fail
        refine Calls.mono (CI.out _ (HT.out.later HBW.out) (WA.out _ (Below.refl _ _))) ?_
        rintro e w3 ⟨rfl, hb⟩
        have HB3 := Lib.hid (HBB.out.trans (hb.mono HBB.out.size))
        obtain ⟨q0, q1, q2, q3, q4⟩ := X3.out.later hb
        have f0 : w3.cell? ⟨g, o' + j * 5, none⟩ = some (.int .i64 uk) := (hb.cell (p := ⟨g, o' + j * 5, none⟩) HGL.out).trans E0.out
        have hgw3 : g < w3.heap.size := Nat.lt_of_lt_of_le HGL.out hb.size
        have hbw3 : w.heap.size < w3.heap.size := Nat.lt_of_lt_of_le X3.out.lt hb.size
        clear hb
        by_cases hu1 : uk = 1
        · have hu1d : True := trivial
          subst hu1
          go_wp2_with fail
          go_roundw
          case rel => first | exact ⟨j + 1, _, by have := HL.out; omega, rfl, by go_num, (by rw [HSTEP.out, if_neg hj0, show showP U = 40 :: (showF U ++ [41]) from by rw [showP_eq, ← HUKD.out]; simp]; simp [HST.out, HC.out, wAnd]), HB3.out⟩ | ((repeat apply Exists.intro); exact ⟨⟨j + 1, _, by have := HL.out; omega, rfl, by go_num, (by rw [HSTEP.out, if_neg hj0, show showP U = 40 :: (showF U ++ [41]) from by rw [showP_eq, ← HUKD.out]; simp]; simp [HST.out, HC.out, wAnd]), HB3.out⟩, rfl⟩)
          case measure => simp [intOf]; omega
        by_cases hu2 : uk = 2
        · have hu1d : True := trivial
          subst hu2
          go_wp2_with fail
          go_roundw
          case rel => first | exact ⟨j + 1, _, by have := HL.out; omega, rfl, by go_num, (by rw [HSTEP.out, if_neg hj0, show showP U = 40 :: (showF U ++ [41]) from by rw [showP_eq, ← HUKD.out]; simp]; simp [HST.out, HC.out, wAnd]), HB3.out⟩ | ((repeat apply Exists.intro); exact ⟨⟨j + 1, _, by have := HL.out; omega, rfl, by go_num, (by rw [HSTEP.out, if_neg hj0, show showP U = 40 :: (showF U ++ [41]) from by rw [showP_eq, ← HUKD.out]; simp]; simp [HST.out, HC.out, wAnd]), HB3.out⟩, rfl⟩)
          case measure => simp [intOf]; omega
        have hu1b : (uk == 1) = false := by rw [beq_eq_false_iff_ne]; exact hu1
        have hu2b : (uk == 2) = false := by rw [beq_eq_false_iff_ne]; exact hu2
        have hu1d : decide (uk = 1) = false := decide_eq_false hu1
        have hu2d : decide (uk = 2) = false := decide_eq_false hu2
        go_wp2_with fail
        go_roundw
        case rel => first | exact ⟨j + 1, _, by have := HL.out; omega, rfl, by go_num, (by rw [HSTEP.out, if_neg hj0, show showP U = showF U from by rw [showP_eq, ← HUKD.out, if_neg (by omega)]]; simp [HST.out, HC.out, wAnd]), HB3.out⟩ | ((repeat apply Exists.intro); exact ⟨⟨j + 1, _, by have := HL.out; omega, rfl, by go_num, (by rw [HSTEP.out, if_neg hj0, show showP U = showF U from by rw [showP_eq, ← HUKD.out, if_neg (by omega)]]; simp [HST.out, HC.out, wAnd]), HB3.out⟩, rfl⟩)
        case measure => simp [intOf]; omega
    · have hlz : ¬ (j : Int) < (l : Int) := by omega
      have HF := Lib.hid (show co = res by rw [bs_of HR.out, bs_of HC.out, show j = ps.length by have := HL.out; have := HK.out; omega, List.take_length])
      go_wp2_with fail
      go_ret
      exact ⟨by rw [← HF.out]; rfl, HBW.out⟩
set_option maxHeartbeats 16000000 in
set_option maxRecDepth 100000 in
theorem show2 (sn so : ByteArray) (vs : List Att) (ps : List Flt) (a : Option Addr) (c : Nat) (b : Option Addr) (d : Nat) (w : World) (hT : LaidT w) (hP : PartsAt w (Old w.heap.size) b 0 ps) (ih : ∀ q ∈ ps, ShowOk q) (hfp : ∀ q ∈ ps, fine q = true) (h5 : szL ps ≤ 99) (h0 : 0 < ps.length) (hv0 : vs = []) : Calls Tryz.prog 12 #[.agg #[.int .i64 2, .string sn, .string so, .slice a vs.length c, .slice b ps.length d]] w fun e w' => e = .returned (.string ⟨(showF (.mk 2 sn.data.toList so.data.toList vs ps)).toArray⟩) ∧ Below w.heap.size w w' := by
  subst hv0
  have HT := Lib.hid hT
  have HP := Lib.hid hP
  have IH := Lib.hid ih
  have HFP := Lib.hid hfp
  have HS5 := Lib.hid (show ∀ q ∈ ps, sz q ≤ 99 from fun q hq => Nat.le_trans (sz_mem hq) h5)
  have HRG := Lib.hid (show ∀ q ∈ ps, rng q from fun q hq => rng_mem (PartsAt.rng _ hP) q hq)
  have HSH := Lib.hid (show ∀ q ∈ ps, (showF q).length ≤ 501000 from fun q hq => show_size (hfp q hq) (HRG.out q hq) (by have := HS5.out q hq; omega))
  have HSP := Lib.hid (show ∀ q ∈ ps, (showP q).length ≤ 501002 from fun q hq => by have := HSH.out q hq; have := showP_le q; omega)
  have hl99 : ps.length ≤ 99 := Nat.le_trans (by
    have : ∀ m : List Flt, m.length ≤ szL m := by
      intro m
      induction m with
      | nil => simp [szL]
      | cons q r ihr => have := sz_pos q; simp only [szL, List.length_cons]; omega
    exact this ps) h5
  have HCO := Lib.hid (show ∀ j, (outJ (32 :: (wOr ++ [32])) ((ps.take j).map showP)).length ≤ 50000000 from fun j => by
    have h1 := outJ_take_len (wd := (32 :: (wOr ++ [32]))) (by decide) HSP.out j
    have h2 : (501002 + 5) * ps.length ≤ (501002 + 5) * 99 := Nat.mul_le_mul_left _ hl99
    omega)
  obtain ⟨res, hres⟩ : ∃ x : ByteArray, x = ⟨(showF (.mk 2 sn.data.toList so.data.toList [] ps)).toArray⟩ := ⟨_, rfl⟩
  have HR := Lib.hid (show res.data.toList = outJ (32 :: (wOr ++ [32])) (ps.map showP) by
    rw [hres]
    match ps, h0 with
    | p :: r, _ => rw [outJ_parts]; simp [showF, andOr])
  rw [← hres]
  obtain ⟨l, hl⟩ : ∃ n, n = ps.length := ⟨_, rfl⟩
  have HL := Lib.hid hl
  rw [← hl] at hl99 h0 ⊢
  simp only [List.length_nil]
  clear hT hP ih hfp h5 hres hl
  obtain ⟨w1, hw1⟩ : ∃ v, v = w.alloc (.cells #[.int .i64 2, .string sn, .string so, .slice a 0 c, .slice b l d] 25) := ⟨_, rfl⟩
  have X1 := Lib.hid (show Box w1 w.heap.size (.int .i64 2) (.string sn) (.string so) (.slice a 0 c) (.slice b l d) by rw [hw1]; exact Box.new ..)
  have HB := Lib.hid (show Below w.heap.size w w1 by rw [hw1]; exact (Below.refl _ _).alloc (Nat.le_refl _) _)
  have HW := Lib.hid hw1
  clear hw1
  go_enter Tryz.func12, Tryz.ntmps12
  go_wp2_with fail
  rw [← HW.out]
  go_loopw [7, 8] (fun vo vi wr => ShR (32 :: (wOr ++ [32])) ps w1 vo vi wr) (fun _ vi _ => l - (intOf vi).toNat)
  case atStart => exact ⟨0, ⟨#[]⟩, Nat.zero_le _, rfl, rfl, rfl, Below.refl _ _⟩
  case round =>
    obtain ⟨j, co, hk, rfl, rfl, hco, hBB⟩ := hrel
    have HK := Lib.hid hk
    have HC := Lib.hid hco
    have hcl : co.size ≤ 50000000 := by rw [Lib.size_eq, hco]; exact HCO.out j
    have HBB := Lib.hid hBB
    have HBW := Lib.hid (HB.out.trans (hBB.mono HB.out.size))
    have X3 := Lib.hid (X1.out.later hBB)
    obtain ⟨p0', p1, p2, p3, p4⟩ := X3.out
    clear hk hco hBB
    by_cases hlt : j < l
    · have hlz : (j : Int) < (l : Int) := by omega
      have hku : j < ps.length := by rw [← HL.out]; exact hlt
      obtain ⟨g, o', a1, c1, b1, d1, hg, hgl, h5, hf⟩ := (HP.out.later HBW.out).get j hku
      obtain ⟨U, hU⟩ : ∃ V, V = ps[j] := ⟨_, rfl⟩
      rw [← hU] at h5 hf
      have HUK := Lib.hid (show ps[j]? = some U by rw [hU]; exact List.getElem?_eq_getElem hku)
      have CI := Lib.hid (fun W h1 h2 => IH.out U (List.mem_of_getElem? HUK.out) a1 c1 b1 d1 W h1 h2 (HFP.out U (List.mem_of_getElem? HUK.out)) (by have := HS5.out U (List.mem_of_getElem? HUK.out); omega))
      have HFU := Lib.hid hf
      have HGL := Lib.hid (show g < wr.heap.size from Nat.lt_of_lt_of_le hgl HBW.out.size)
      have hgw : g < wr.heap.size := HGL.out
      have hbw : w.heap.size < wr.heap.size := X3.out.lt
      subst hg
      obtain ⟨e0, e1, e2, e3, e4⟩ := h5
      rw [Nat.zero_add] at e0 e1 e2 e3 e4
      obtain ⟨un, hun, _⟩ := bs_bytes U.name
      obtain ⟨uo, huo, _⟩ := bs_bytes U.op
      rw [hun] at e1 CI
      rw [huo] at e2 CI
      obtain ⟨uk, huk⟩ : ∃ x, x = U.kind := ⟨_, rfl⟩
      obtain ⟨uv, huv⟩ : ∃ x, x = U.vals.length := ⟨_, rfl⟩
      obtain ⟨up, hup⟩ : ∃ x, x = U.parts.length := ⟨_, rfl⟩
      rw [← huk] at e0 CI
      rw [← huv] at e3 CI
      rw [← hup] at e4 CI
      have HUKD := Lib.hid huk
      have E0 := Lib.hid e0
      clear hU hf hgl hun huo huk huv hup
      have WA := Lib.hid (show ∀ W, Below w.heap.size wr W → FltAt W (Old W.heap.size) U a1 b1 from fun W hW => (HFU.out.later hW).wide (Nat.le_trans HBW.out.size hW.size))
      obtain ⟨st, hst⟩ : ∃ x : ByteArray, x = ⟨(showF U).toArray⟩ := ⟨_, rfl⟩
      have hsl : st.size ≤ 501000 := by rw [hst, bytes_size]; exact HSH.out U (List.mem_of_getElem? HUK.out)
      rw [← hst] at CI
      have HST := Lib.hid (show st.data.toList = showF U by rw [hst])
      have HSTEP := Lib.hid (outJ_step (32 :: (wOr ++ [32])) showP HUK.out)
      have z1 : ¬ 9223372036854775807 < co.size + 4 := by omega
      have z2 : ¬ 9223372036854775807 < co.size + 4 + st.size := by omega
      have z3 : ¬ 9223372036854775807 < co.size + st.size := by omega
      have z4 : ¬ 9223372036854775807 < 1 + st.size := by omega
      have z5 : ¬ 9223372036854775807 < 1 + st.size + 1 := by omega
      have z6 : ¬ 9223372036854775807 < co.size + 4 + (1 + st.size + 1) := by omega
      have z7 : ¬ 9223372036854775807 < co.size + (1 + st.size + 1) := by omega
      clear hst
      by_cases hj0 : j = 0
      · skip
        subst hj0
        have hgz : ¬ ((0 : Nat) : Int) > 0 := by omega
        have hgb : decide (((0 : Nat) : Int) > 0) = false := decide_eq_false hgz
        simp only [Nat.zero_mul, Nat.add_zero] at e0 e1 e2 e3 e4
        have E0 := Lib.hid e0
        go_wp2_with fail
        refine Calls.mono (CI.out _ (HT.out.later HBW.out) (WA.out _ (Below.refl _ _))) ?_
        rintro e w3 ⟨rfl, hb⟩
        have HB3 := Lib.hid (HBB.out.trans (hb.mono HBB.out.size))
        obtain ⟨q0, q1, q2, q3, q4⟩ := X3.out.later hb
        have f0 : w3.cell? ⟨g, o', none⟩ = some (.int .i64 uk) := (hb.cell (p := ⟨g, o', none⟩) HGL.out).trans E0.out
        have hgw3 : g < w3.heap.size := Nat.lt_of_lt_of_le HGL.out hb.size
        have hbw3 : w.heap.size < w3.heap.size := Nat.lt_of_lt_of_le X3.out.lt hb.size
        clear hb
        by_cases hu1 : uk = 1
        · have hu1d : True := trivial
          subst hu1
          go_wp2_with fail
          go_roundw
          case rel => first | exact ⟨0 + 1, _, by have := HL.out; omega, rfl, by go_num, (by rw [HSTEP.out, if_pos trivial, show showP U = 40 :: (showF U ++ [41]) from by rw [showP_eq, ← HUKD.out]; simp]; simp [HST.out, HC.out, wOr, outJ]), HB3.out⟩ | ((repeat apply Exists.intro); exact ⟨⟨0 + 1, _, by have := HL.out; omega, rfl, by go_num, (by rw [HSTEP.out, if_pos trivial, show showP U = 40 :: (showF U ++ [41]) from by rw [showP_eq, ← HUKD.out]; simp]; simp [HST.out, HC.out, wOr, outJ]), HB3.out⟩, rfl⟩)
          case measure => simp [intOf]; omega
        by_cases hu2 : uk = 2
        · have hu1d : True := trivial
          subst hu2
          go_wp2_with fail
          go_roundw
          case rel => first | exact ⟨0 + 1, _, by have := HL.out; omega, rfl, by go_num, (by rw [HSTEP.out, if_pos trivial, show showP U = 40 :: (showF U ++ [41]) from by rw [showP_eq, ← HUKD.out]; simp]; simp [HST.out, HC.out, wOr, outJ]), HB3.out⟩ | ((repeat apply Exists.intro); exact ⟨⟨0 + 1, _, by have := HL.out; omega, rfl, by go_num, (by rw [HSTEP.out, if_pos trivial, show showP U = 40 :: (showF U ++ [41]) from by rw [showP_eq, ← HUKD.out]; simp]; simp [HST.out, HC.out, wOr, outJ]), HB3.out⟩, rfl⟩)
          case measure => simp [intOf]; omega
        have hu1b : (uk == 1) = false := by rw [beq_eq_false_iff_ne]; exact hu1
        have hu2b : (uk == 2) = false := by rw [beq_eq_false_iff_ne]; exact hu2
        have hu1d : decide (uk = 1) = false := decide_eq_false hu1
        have hu2d : decide (uk = 2) = false := decide_eq_false hu2
        go_wp2_with fail
        go_roundw
        case rel => first | exact ⟨0 + 1, _, by have := HL.out; omega, rfl, by go_num, (by rw [HSTEP.out, if_pos trivial, show showP U = showF U from by rw [showP_eq, ← HUKD.out, if_neg (by omega)]]; simp [HST.out, HC.out, wOr, outJ]), HB3.out⟩ | ((repeat apply Exists.intro); exact ⟨⟨0 + 1, _, by have := HL.out; omega, rfl, by go_num, (by rw [HSTEP.out, if_pos trivial, show showP U = showF U from by rw [showP_eq, ← HUKD.out, if_neg (by omega)]]; simp [HST.out, HC.out, wOr, outJ]), HB3.out⟩, rfl⟩)
        case measure => simp [intOf]; omega
      · skip
        have hgz : (j : Int) > 0 := by omega
        have hgb : decide ((j : Int) > 0) = true := decide_eq_true hgz
        have E0 := Lib.hid e0
        go_wp2_with fail
        refine Calls.mono (CI.out _ (HT.out.later HBW.out) (WA.out _ (Below.refl _ _))) ?_
        rintro e w3 ⟨rfl, hb⟩
        have HB3 := Lib.hid (HBB.out.trans (hb.mono HBB.out.size))
        obtain ⟨q0, q1, q2, q3, q4⟩ := X3.out.later hb
        have f0 : w3.cell? ⟨g, o' + j * 5, none⟩ = some (.int .i64 uk) := (hb.cell (p := ⟨g, o' + j * 5, none⟩) HGL.out).trans E0.out
        have hgw3 : g < w3.heap.size := Nat.lt_of_lt_of_le HGL.out hb.size
        have hbw3 : w.heap.size < w3.heap.size := Nat.lt_of_lt_of_le X3.out.lt hb.size
        clear hb
        by_cases hu1 : uk = 1
        · have hu1d : True := trivial
          subst hu1
          go_wp2_with fail
          go_roundw
          case rel => first | exact ⟨j + 1, _, by have := HL.out; omega, rfl, by go_num, (by rw [HSTEP.out, if_neg hj0, show showP U = 40 :: (showF U ++ [41]) from by rw [showP_eq, ← HUKD.out]; simp]; simp [HST.out, HC.out, wOr]), HB3.out⟩ | ((repeat apply Exists.intro); exact ⟨⟨j + 1, _, by have := HL.out; omega, rfl, by go_num, (by rw [HSTEP.out, if_neg hj0, show showP U = 40 :: (showF U ++ [41]) from by rw [showP_eq, ← HUKD.out]; simp]; simp [HST.out, HC.out, wOr]), HB3.out⟩, rfl⟩)
          case measure => simp [intOf]; omega
        by_cases hu2 : uk = 2
        · have hu1d : True := trivial
          subst hu2
          go_wp2_with fail
          go_roundw
          case rel => first | exact ⟨j + 1, _, by have := HL.out; omega, rfl, by go_num, (by rw [HSTEP.out, if_neg hj0, show showP U = 40 :: (showF U ++ [41]) from by rw [showP_eq, ← HUKD.out]; simp]; simp [HST.out, HC.out, wOr]), HB3.out⟩ | ((repeat apply Exists.intro); exact ⟨⟨j + 1, _, by have := HL.out; omega, rfl, by go_num, (by rw [HSTEP.out, if_neg hj0, show showP U = 40 :: (showF U ++ [41]) from by rw [showP_eq, ← HUKD.out]; simp]; simp [HST.out, HC.out, wOr]), HB3.out⟩, rfl⟩)
          case measure => simp [intOf]; omega
        have hu1b : (uk == 1) = false := by rw [beq_eq_false_iff_ne]; exact hu1
        have hu2b : (uk == 2) = false := by rw [beq_eq_false_iff_ne]; exact hu2
        have hu1d : decide (uk = 1) = false := decide_eq_false hu1
        have hu2d : decide (uk = 2) = false := decide_eq_false hu2
        go_wp2_with fail
        go_roundw
        case rel => first | exact ⟨j + 1, _, by have := HL.out; omega, rfl, by go_num, (by rw [HSTEP.out, if_neg hj0, show showP U = showF U from by rw [showP_eq, ← HUKD.out, if_neg (by omega)]]; simp [HST.out, HC.out, wOr]), HB3.out⟩ | ((repeat apply Exists.intro); exact ⟨⟨j + 1, _, by have := HL.out; omega, rfl, by go_num, (by rw [HSTEP.out, if_neg hj0, show showP U = showF U from by rw [showP_eq, ← HUKD.out, if_neg (by omega)]]; simp [HST.out, HC.out, wOr]), HB3.out⟩, rfl⟩)
        case measure => simp [intOf]; omega
    · have hlz : ¬ (j : Int) < (l : Int) := by omega
      have HF := Lib.hid (show co = res by rw [bs_of HR.out, bs_of HC.out, show j = ps.length by have := HL.out; have := HK.out; omega, List.take_length])
      go_wp2_with fail
      go_ret
      exact ⟨by rw [← HF.out]; rfl, HBW.out⟩
theorem show7 (sn so : ByteArray) (vs : List Att) (ps : List Flt) (a : Option Addr) (c : Nat) (b : Option Addr) (d : Nat) (w : World) (hv0 : vs = []) (hp0 : ps = []) : Calls Tryz.prog 12 #[.agg #[.int .i64 7, .string sn, .string so, .slice a vs.length c, .slice b ps.length d]] w fun e w' => e = .returned (.string ⟨(showF (.mk 7 sn.data.toList so.data.toList vs ps)).toArray⟩) ∧ Below w.heap.size w w' := by
  subst hv0
  subst hp0
  have HE := Lib.hid (show showF (.mk 7 sn.data.toList so.data.toList [] []) = wTrue by simp [showF])
  rw [HE.out]
  obtain ⟨x0, hx0⟩ : ∃ x : ByteArray, x = ⟨wTrue.toArray⟩ := ⟨_, rfl⟩
  have HX := Lib.hid (show (⟨#[116, 114, 117, 101]⟩ : ByteArray) = x0 by rw [hx0]; rfl)
  rw [← hx0]
  clear hx0
  go_enter Tryz.func12, Tryz.ntmps12
  go_wp2_with fail
  go_ret
  exact ⟨by rw [← HX.out]; rfl, (Below.refl _ _).alloc (Nat.le_refl _) _⟩
set_option maxHeartbeats 4000000 in
set_option maxRecDepth 100000 in
theorem show3 (sn so : ByteArray) (vs : List Att) (ps : List Flt) (a : Option Addr) (c : Nat) (b : Option Addr) (d : Nat) (w : World) (hT : LaidT w) (hP : PartsAt w (Old w.heap.size) b 0 ps) (ih : ∀ q ∈ ps, ShowOk q) (hfp : ∀ q ∈ ps, fine q = true) (h5 : szL ps ≤ 99) (h0 : ps.length = 1) (hv0 : vs = []) : Calls Tryz.prog 12 #[.agg #[.int .i64 3, .string sn, .string so, .slice a vs.length c, .slice b ps.length d]] w fun e w' => e = .returned (.string ⟨(showF (.mk 3 sn.data.toList so.data.toList vs ps)).toArray⟩) ∧ Below w.heap.size w w' := by
  subst hv0
  obtain ⟨p0, hpr⟩ : ∃ p, ps = [p] := by
    match ps, h0 with
    | [p], _ => exact ⟨p, rfl⟩
  subst hpr
  have hrg := PartsAt.rng _ hP
  rw [rngL] at hrg
  have hz0 : sz p0 ≤ 100 := by simp only [szL] at h5; omega
  have hst5 := show_size (hfp p0 (List.mem_cons_self ..)) hrg.1 hz0
  obtain ⟨st, hst⟩ : ∃ x : ByteArray, x = ⟨(showF p0).toArray⟩ := ⟨_, rfl⟩
  have hsz : st.size ≤ 501000 := by rw [hst, bytes_size]; exact hst5
  have HST := Lib.hid (show st.data.toList = showF p0 by rw [hst])
  obtain ⟨res, hres⟩ : ∃ x : ByteArray, x = ⟨(showF (.mk 3 sn.data.toList so.data.toList [] [p0])).toArray⟩ := ⟨_, rfl⟩
  have HR := Lib.hid hres
  rw [← hres]
  obtain ⟨g, o', a1, c1, b1, d1, hg, hgl, h5', hf⟩ := hP.get 0 (by simp)
  simp only [List.getElem_cons_zero] at h5' hf
  obtain ⟨e0, e1, e2, e3, e4⟩ := h5'
  simp only [Nat.zero_mul, Nat.add_zero] at e0 e1 e2 e3 e4
  have CQ := Lib.hid (fun W h1 h2 => ih p0 (List.mem_cons_self ..) a1 c1 b1 d1 W h1 h2 (hfp p0 (List.mem_cons_self ..)) hz0)
  rw [← hst] at CQ
  obtain ⟨un, hun, _⟩ := bs_bytes p0.name
  obtain ⟨uo, huo, _⟩ := bs_bytes p0.op
  rw [hun] at e1 CQ
  rw [huo] at e2 CQ
  obtain ⟨uk, huk⟩ : ∃ x, x = p0.kind := ⟨_, rfl⟩
  obtain ⟨uv, huv⟩ : ∃ x, x = p0.vals.length := ⟨_, rfl⟩
  obtain ⟨up, hup⟩ : ∃ x, x = p0.parts.length := ⟨_, rfl⟩
  have HUK := Lib.hid huk
  rw [← huk] at e0 CQ
  rw [← huv] at e3 CQ
  rw [← hup] at e4 CQ
  have HE := Lib.hid (And.intro e0 (And.intro e1 (And.intro e2 (And.intro e3 e4))))
  have HFU := Lib.hid hf
  have HT := Lib.hid hT
  have HGL := Lib.hid hgl
  subst hg
  have HE5 := Lib.hid (show ∀ W, Below w.heap.size w W → W.cell? ⟨g, o', none⟩ = some (.int .i64 uk) ∧ W.cell? ⟨g, o' + 1, none⟩ = some (.string un) ∧ W.cell? ⟨g, o' + 2, none⟩ = some (.string uo) ∧ W.cell? ⟨g, o' + 3, none⟩ = some (.slice a1 uv c1) ∧ W.cell? ⟨g, o' + 4, none⟩ = some (.slice b1 up d1) from fun W hW =>
    ⟨(hW.cell (p := ⟨g, o', none⟩) HGL.out).trans HE.out.1, (hW.cell (p := ⟨g, o' + 1, none⟩) HGL.out).trans HE.out.2.1, (hW.cell (p := ⟨g, o' + 2, none⟩) HGL.out).trans HE.out.2.2.1, (hW.cell (p := ⟨g, o' + 3, none⟩) HGL.out).trans HE.out.2.2.2.1, (hW.cell (p := ⟨g, o' + 4, none⟩) HGL.out).trans HE.out.2.2.2.2⟩)
  simp only [List.length_nil, List.length_cons, Nat.zero_add]
  have hgw : g < w.heap.size := hgl
  clear hres hT hP ih hfp h5 h0 hrg hst hst5 hun huo huk huv hup e0 e1 e2 e3 e4 hf hgl
  obtain ⟨w1, hw1⟩ : ∃ v, v = w.alloc (.cells #[.int .i64 3, .string sn, .string so, .slice a 0 c, .slice (some ⟨g, o', none⟩) 1 d] 25) := ⟨_, rfl⟩
  have X1 := Lib.hid (show Box w1 w.heap.size (.int .i64 3) (.string sn) (.string so) (.slice a 0 c) (.slice (some ⟨g, o', none⟩) 1 d) by rw [hw1]; exact Box.new ..)
  have HB := Lib.hid (show Below w.heap.size w w1 by rw [hw1]; exact (Below.refl _ _).alloc (Nat.le_refl _) _)
  have HW := Lib.hid hw1
  clear hw1
  have z1 : ¬ 9223372036854775807 < 4 + st.size := by omega
  have z2 : ¬ 9223372036854775807 < 5 + st.size := by omega
  have z3 : ¬ 9223372036854775807 < 5 + st.size + 1 := by omega
  obtain ⟨e0, e1, e2, e3, e4⟩ := HE5.out w1 HB.out
  rw [HW.out] at e0 e1 e2 e3 e4
  by_cases h7 : uk = 7
  · subst h7
    have HFN := Lib.hid (show ∀ y : ByteArray, y.data.toList = [110, 111, 116, 32] ++ st.data.toList → y = res from fun y hy => by rw [bs_of hy, HR.out]; simp [showF, showN, wNot, HST.out, ← HUK.out])
    go_enter Tryz.func12, Tryz.ntmps12
    go_wp2_with fail
    rw [← HW.out]
    refine Calls.mono (CQ.out _ (HT.out.later HB.out) (HFU.out.fit HB.out)) ?_
    rintro e w2 ⟨rfl, hb⟩
    have HB2 := Lib.hid (HB.out.trans (hb.mono HB.out.size))
    obtain ⟨c0, c1', c2, c3, c4⟩ := X1.out.later hb
    obtain ⟨f0, f1, f2, f3, f4⟩ := HE5.out w2 HB2.out
    clear hb
    go_wp2_with fail
    go_ret
    exact ⟨congrArg (fun y => Ending.returned (.string y)) (HFN.out _ (by simp)), HB2.out⟩
  by_cases h3 : uk = 3
  · subst h3
    have HFN := Lib.hid (show ∀ y : ByteArray, y.data.toList = [110, 111, 116, 32] ++ st.data.toList → y = res from fun y hy => by rw [bs_of hy, HR.out]; simp [showF, showN, wNot, HST.out, ← HUK.out])
    go_enter Tryz.func12, Tryz.ntmps12
    go_wp2_with fail
    rw [← HW.out]
    refine Calls.mono (CQ.out _ (HT.out.later HB.out) (HFU.out.fit HB.out)) ?_
    rintro e w2 ⟨rfl, hb⟩
    have HB2 := Lib.hid (HB.out.trans (hb.mono HB.out.size))
    obtain ⟨c0, c1', c2, c3, c4⟩ := X1.out.later hb
    obtain ⟨f0, f1, f2, f3, f4⟩ := HE5.out w2 HB2.out
    clear hb
    go_wp2_with fail
    go_ret
    exact ⟨congrArg (fun y => Ending.returned (.string y)) (HFN.out _ (by simp)), HB2.out⟩
  have h7b : (uk == 7) = false := by rw [beq_eq_false_iff_ne]; exact h7
  have h3b : (uk == 3) = false := by rw [beq_eq_false_iff_ne]; exact h3
  have h7d : decide (uk = 7) = false := decide_eq_false h7
  have h3d : decide (uk = 3) = false := decide_eq_false h3
  have HFN := Lib.hid (show ∀ y : ByteArray, y.data.toList = [110, 111, 116, 32, 40] ++ (st.data.toList ++ [41]) → y = res from fun y hy => by rw [bs_of hy, HR.out]; simp [showF, showN, wNot, HST.out, ← HUK.out, h7, h3])
  go_enter Tryz.func12, Tryz.ntmps12
  go_wp2_with fail
  rw [← HW.out]
  refine Calls.mono (CQ.out _ (HT.out.later HB.out) (HFU.out.fit HB.out)) ?_
  rintro e w2 ⟨rfl, hb⟩
  have HB2 := Lib.hid (HB.out.trans (hb.mono HB.out.size))
  obtain ⟨c0, c1', c2, c3, c4⟩ := X1.out.later hb
  obtain ⟨f0, f1, f2, f3, f4⟩ := HE5.out w2 HB2.out
  clear hb
  go_wp2_with fail
  go_ret
  exact ⟨congrArg (fun y => Ending.returned (.string y)) (HFN.out _ (by simp)), HB2.out⟩
set_option maxHeartbeats 4000000 in
set_option maxRecDepth 100000 in
theorem show4 (sn so : ByteArray) (vs : List Att) (ps : List Flt) (a : Option Addr) (c : Nat) (b : Option Addr) (d : Nat) (w : World) (hT : LaidT w) (hA : AttsAt w (Old w.heap.size) a vs) (hn20 : sn.size ≤ 20) (ho2 : so.size ≤ 2) (h0 : vs.length = 1) (hvb : ∀ v ∈ vs, v.str.length ≤ 200) (hp0 : ps = []) : Calls Tryz.prog 12 #[.agg #[.int .i64 4, .string sn, .string so, .slice a vs.length c, .slice b ps.length d]] w fun e w' => e = .returned (.string ⟨(showF (.mk 4 sn.data.toList so.data.toList vs ps)).toArray⟩) ∧ Below w.heap.size w w' := by
  subst hp0
  obtain ⟨v0, hpr⟩ : ∃ p, vs = [p] := by
    match vs, h0 with
    | [p], _ => exact ⟨p, rfl⟩
  subst hpr
  have hv2 := hvb v0 (List.mem_cons_self ..)
  have hrv := (hA.2.1 v0 (List.mem_cons_self ..)).2.2
  obtain ⟨st, hst⟩ : ∃ x : ByteArray, x = ⟨(showV v0).toArray⟩ := ⟨_, rfl⟩
  have hsz : st.size ≤ 202 := by
    rw [hst, bytes_size]
    unfold showV
    have := Lib.itoa_length_le v0.num hrv.1 hrv.2
    split
    · simp; omega
    · omega
  obtain ⟨res, hres⟩ : ∃ x : ByteArray, x = ⟨(showF (.mk 4 sn.data.toList so.data.toList [v0] [])).toArray⟩ := ⟨_, rfl⟩
  have HR := Lib.hid (show res.data.toList = sn.data.toList ++ 32 :: (so.data.toList ++ 32 :: st.data.toList) by rw [hres, hst]; simp [showF, showOne, sPre])
  rw [← hres]
  obtain ⟨g, o', hg, hgl, hc⟩ := hA.2.2 (by simp)
  obtain ⟨e0, e1, e2, e3⟩ := hc 0 (by simp)
  simp only [List.getElem_cons_zero, Nat.zero_mul, Nat.add_zero] at e0 e1 e2 e3
  obtain ⟨s1, q1, _⟩ := bs_bytes v0.name
  obtain ⟨t1, q2, f2⟩ := bs_bytes v0.str
  rw [q1] at e0
  rw [q2] at e3
  have CV := Lib.hid (fun W h => refValue_any s1 v0 t1 f2 hv2 hrv W h)
  rw [← hst] at CV
  obtain ⟨x1, hx1⟩ : ∃ x, x = v0.text := ⟨_, rfl⟩
  obtain ⟨y1, hy1⟩ : ∃ x, x = v0.num := ⟨_, rfl⟩
  rw [← hx1] at e1 CV
  rw [← hy1] at e2 CV
  have HE := Lib.hid (And.intro e0 (And.intro e1 (And.intro e2 e3)))
  have HT := Lib.hid hT
  have HGL := Lib.hid hgl
  subst hg
  simp only [List.length_nil, List.length_cons, Nat.zero_add]
  clear hres hT hA h0 hvb hv2 hrv hst hc e0 e1 e2 e3 q1 q2 f2 hx1 hy1 hgl
  obtain ⟨w1, hw1⟩ : ∃ v, v = w.alloc (.cells #[.int .i64 4, .string sn, .string so, .slice (some ⟨g, o', none⟩) 1 c, .slice b 0 d] 25) := ⟨_, rfl⟩
  have X1 := Lib.hid (show Box w1 w.heap.size (.int .i64 4) (.string sn) (.string so) (.slice (some ⟨g, o', none⟩) 1 c) (.slice b 0 d) by rw [hw1]; exact Box.new ..)
  have HB := Lib.hid (show Below w.heap.size w w1 by rw [hw1]; exact (Below.refl _ _).alloc (Nat.le_refl _) _)
  have HW := Lib.hid hw1
  clear hw1
  have HS := Lib.hid (show ∀ W, Below w1.heap.size w1 W → (fun W => W.cell? ⟨w.heap.size, 0, none⟩ = some (.int .i64 4) ∧ W.cell? ⟨w.heap.size, 1, none⟩ = some (.string sn) ∧ W.cell? ⟨w.heap.size, 2, none⟩ = some (.string so) ∧ W.cell? ⟨w.heap.size, 3, none⟩ = some (.slice (some ⟨g, o', none⟩) 1 c) ∧ W.cell? ⟨w.heap.size, 4, none⟩ = some (.slice b 0 d) ∧ W.cell? ⟨g, o', none⟩ = some (.string s1) ∧ W.cell? ⟨g, o' + 1, none⟩ = some (.bool x1) ∧ W.cell? ⟨g, o' + 2, none⟩ = some (.int .i64 y1) ∧ W.cell? ⟨g, o' + 3, none⟩ = some (.string t1) ∧ Below w1.heap.size w1 W) W from fun W hW =>
    ⟨(hW.cell (p := ⟨w.heap.size, 0, none⟩) X1.out.lt).trans X1.out.1, (hW.cell (p := ⟨w.heap.size, 1, none⟩) X1.out.lt).trans X1.out.2.1, (hW.cell (p := ⟨w.heap.size, 2, none⟩) X1.out.lt).trans X1.out.2.2.1, (hW.cell (p := ⟨w.heap.size, 3, none⟩) X1.out.lt).trans X1.out.2.2.2.1, (hW.cell (p := ⟨w.heap.size, 4, none⟩) X1.out.lt).trans X1.out.2.2.2.2, ((HB.out.trans (hW.mono HB.out.size)).cell (p := ⟨g, o', none⟩) HGL.out).trans HE.out.1, ((HB.out.trans (hW.mono HB.out.size)).cell (p := ⟨g, o' + 1, none⟩) HGL.out).trans HE.out.2.1, ((HB.out.trans (hW.mono HB.out.size)).cell (p := ⟨g, o' + 2, none⟩) HGL.out).trans HE.out.2.2.1, ((HB.out.trans (hW.mono HB.out.size)).cell (p := ⟨g, o' + 3, none⟩) HGL.out).trans HE.out.2.2.2, hW⟩)
  have HD0 := Lib.hid (show Below w1.heap.size w1 w1.drew from (Below.refl _ _).drew)
  have z1 : ¬ 9223372036854775807 < sn.size + 1 := by omega
  have z2 : ¬ 9223372036854775807 < sn.size + 1 + so.size := by omega
  have z3 : ¬ 9223372036854775807 < sn.size + 1 + so.size + 1 := by omega
  have z4 : ¬ 9223372036854775807 < sn.size + 1 + so.size + 1 + st.size := by omega
  have HFN := Lib.hid (show ∀ y : ByteArray, y.data.toList = sn.data.toList ++ 32 :: (so.data.toList ++ 32 :: st.data.toList) → y = res from fun y hy => by rw [bs_of hy, bs_of HR.out])
  go_enter Tryz.func12, Tryz.ntmps12
  go_wp2_with fail
  rw [← HW.out]
  go_region_held3 (fun W => W.cell? ⟨w.heap.size, 0, none⟩ = some (.int .i64 4) ∧ W.cell? ⟨w.heap.size, 1, none⟩ = some (.string sn) ∧ W.cell? ⟨w.heap.size, 2, none⟩ = some (.string so) ∧ W.cell? ⟨w.heap.size, 3, none⟩ = some (.slice (some ⟨g, o', none⟩) 1 c) ∧ W.cell? ⟨w.heap.size, 4, none⟩ = some (.slice b 0 d) ∧ W.cell? ⟨g, o', none⟩ = some (.string s1) ∧ W.cell? ⟨g, o' + 1, none⟩ = some (.bool x1) ∧ W.cell? ⟨g, o' + 2, none⟩ = some (.int .i64 y1) ∧ W.cell? ⟨g, o' + 3, none⟩ = some (.string t1) ∧ Below w1.heap.size w1 W)
    (first | exact HS.out _ HD0.out | exact HS.out _ HB1.out)
    (first | (go_at_call 24; have HX := Lib.hid ((And.right <| And.right <| And.right <| And.right <| And.right <| And.right <| And.right <| And.right <| And.right <| (by assumption))); refine Calls.mono (CV.out _ (HT.out.later (HB.out.trans (HX.out.mono HB.out.size)))) ?_; rintro e w2 ⟨rfl, hb⟩; have HB1 := Lib.hid (HX.out.trans (hb.mono HX.out.size)); clear hb))
  go_wp2_with fail
  go_ret
  exact ⟨congrArg (fun y => Ending.returned (.string y)) (HFN.out _ (by simp)), HB.out.trans (HB1.out.mono HB.out.size)⟩
set_option maxHeartbeats 4000000 in
set_option maxRecDepth 100000 in
theorem show5 (sn so : ByteArray) (vs : List Att) (ps : List Flt) (a : Option Addr) (c : Nat) (b : Option Addr) (d : Nat) (w : World) (hT : LaidT w) (hA : AttsAt w (Old w.heap.size) a vs) (hn20 : sn.size ≤ 20) (ho2 : so.size ≤ 2) (h0 : vs.length = 1) (hvb : ∀ v ∈ vs, v.str.length ≤ 200) (hp0 : ps = []) : Calls Tryz.prog 12 #[.agg #[.int .i64 5, .string sn, .string so, .slice a vs.length c, .slice b ps.length d]] w fun e w' => e = .returned (.string ⟨(showF (.mk 5 sn.data.toList so.data.toList vs ps)).toArray⟩) ∧ Below w.heap.size w w' := by
  subst hp0
  obtain ⟨v0, hpr⟩ : ∃ p, vs = [p] := by
    match vs, h0 with
    | [p], _ => exact ⟨p, rfl⟩
  subst hpr
  have hv2 := hvb v0 (List.mem_cons_self ..)
  have hrv := (hA.2.1 v0 (List.mem_cons_self ..)).2.2
  obtain ⟨st, hst⟩ : ∃ x : ByteArray, x = ⟨(showV v0).toArray⟩ := ⟨_, rfl⟩
  have hsz : st.size ≤ 202 := by
    rw [hst, bytes_size]
    unfold showV
    have := Lib.itoa_length_le v0.num hrv.1 hrv.2
    split
    · simp; omega
    · omega
  obtain ⟨res, hres⟩ : ∃ x : ByteArray, x = ⟨(showF (.mk 5 sn.data.toList so.data.toList [v0] [])).toArray⟩ := ⟨_, rfl⟩
  have HR := Lib.hid (show res.data.toList = sn.data.toList ++ 32 :: (94 :: 61 :: 32 :: st.data.toList) by rw [hres, hst]; simp [showF, showOne, sPre])
  rw [← hres]
  obtain ⟨g, o', hg, hgl, hc⟩ := hA.2.2 (by simp)
  obtain ⟨e0, e1, e2, e3⟩ := hc 0 (by simp)
  simp only [List.getElem_cons_zero, Nat.zero_mul, Nat.add_zero] at e0 e1 e2 e3
  obtain ⟨s1, q1, _⟩ := bs_bytes v0.name
  obtain ⟨t1, q2, f2⟩ := bs_bytes v0.str
  rw [q1] at e0
  rw [q2] at e3
  have CV := Lib.hid (fun W h => refValue_any s1 v0 t1 f2 hv2 hrv W h)
  rw [← hst] at CV
  obtain ⟨x1, hx1⟩ : ∃ x, x = v0.text := ⟨_, rfl⟩
  obtain ⟨y1, hy1⟩ : ∃ x, x = v0.num := ⟨_, rfl⟩
  rw [← hx1] at e1 CV
  rw [← hy1] at e2 CV
  have HE := Lib.hid (And.intro e0 (And.intro e1 (And.intro e2 e3)))
  have HT := Lib.hid hT
  have HGL := Lib.hid hgl
  subst hg
  simp only [List.length_nil, List.length_cons, Nat.zero_add]
  clear hres hT hA h0 hvb hv2 hrv hst hc e0 e1 e2 e3 q1 q2 f2 hx1 hy1 hgl
  obtain ⟨w1, hw1⟩ : ∃ v, v = w.alloc (.cells #[.int .i64 5, .string sn, .string so, .slice (some ⟨g, o', none⟩) 1 c, .slice b 0 d] 25) := ⟨_, rfl⟩
  have X1 := Lib.hid (show Box w1 w.heap.size (.int .i64 5) (.string sn) (.string so) (.slice (some ⟨g, o', none⟩) 1 c) (.slice b 0 d) by rw [hw1]; exact Box.new ..)
  have HB := Lib.hid (show Below w.heap.size w w1 by rw [hw1]; exact (Below.refl _ _).alloc (Nat.le_refl _) _)
  have HW := Lib.hid hw1
  clear hw1
  have HS := Lib.hid (show ∀ W, Below w1.heap.size w1 W → (fun W => W.cell? ⟨w.heap.size, 0, none⟩ = some (.int .i64 5) ∧ W.cell? ⟨w.heap.size, 1, none⟩ = some (.string sn) ∧ W.cell? ⟨w.heap.size, 2, none⟩ = some (.string so) ∧ W.cell? ⟨w.heap.size, 3, none⟩ = some (.slice (some ⟨g, o', none⟩) 1 c) ∧ W.cell? ⟨w.heap.size, 4, none⟩ = some (.slice b 0 d) ∧ W.cell? ⟨g, o', none⟩ = some (.string s1) ∧ W.cell? ⟨g, o' + 1, none⟩ = some (.bool x1) ∧ W.cell? ⟨g, o' + 2, none⟩ = some (.int .i64 y1) ∧ W.cell? ⟨g, o' + 3, none⟩ = some (.string t1) ∧ Below w1.heap.size w1 W) W from fun W hW =>
    ⟨(hW.cell (p := ⟨w.heap.size, 0, none⟩) X1.out.lt).trans X1.out.1, (hW.cell (p := ⟨w.heap.size, 1, none⟩) X1.out.lt).trans X1.out.2.1, (hW.cell (p := ⟨w.heap.size, 2, none⟩) X1.out.lt).trans X1.out.2.2.1, (hW.cell (p := ⟨w.heap.size, 3, none⟩) X1.out.lt).trans X1.out.2.2.2.1, (hW.cell (p := ⟨w.heap.size, 4, none⟩) X1.out.lt).trans X1.out.2.2.2.2, ((HB.out.trans (hW.mono HB.out.size)).cell (p := ⟨g, o', none⟩) HGL.out).trans HE.out.1, ((HB.out.trans (hW.mono HB.out.size)).cell (p := ⟨g, o' + 1, none⟩) HGL.out).trans HE.out.2.1, ((HB.out.trans (hW.mono HB.out.size)).cell (p := ⟨g, o' + 2, none⟩) HGL.out).trans HE.out.2.2.1, ((HB.out.trans (hW.mono HB.out.size)).cell (p := ⟨g, o' + 3, none⟩) HGL.out).trans HE.out.2.2.2, hW⟩)
  have HD0 := Lib.hid (show Below w1.heap.size w1 w1.drew from (Below.refl _ _).drew)
  have z1 : ¬ 9223372036854775807 < sn.size + 4 := by omega
  have z2 : ¬ 9223372036854775807 < sn.size + 4 + st.size := by omega
  have HFN := Lib.hid (show ∀ y : ByteArray, y.data.toList = sn.data.toList ++ 32 :: (94 :: 61 :: 32 :: st.data.toList) → y = res from fun y hy => by rw [bs_of hy, bs_of HR.out])
  go_enter Tryz.func12, Tryz.ntmps12
  go_wp2_with fail
  rw [← HW.out]
  go_region_held3 (fun W => W.cell? ⟨w.heap.size, 0, none⟩ = some (.int .i64 5) ∧ W.cell? ⟨w.heap.size, 1, none⟩ = some (.string sn) ∧ W.cell? ⟨w.heap.size, 2, none⟩ = some (.string so) ∧ W.cell? ⟨w.heap.size, 3, none⟩ = some (.slice (some ⟨g, o', none⟩) 1 c) ∧ W.cell? ⟨w.heap.size, 4, none⟩ = some (.slice b 0 d) ∧ W.cell? ⟨g, o', none⟩ = some (.string s1) ∧ W.cell? ⟨g, o' + 1, none⟩ = some (.bool x1) ∧ W.cell? ⟨g, o' + 2, none⟩ = some (.int .i64 y1) ∧ W.cell? ⟨g, o' + 3, none⟩ = some (.string t1) ∧ Below w1.heap.size w1 W)
    (first | exact HS.out _ HD0.out | exact HS.out _ HB1.out)
    (first | (go_at_call 24; have HX := Lib.hid ((And.right <| And.right <| And.right <| And.right <| And.right <| And.right <| And.right <| And.right <| And.right <| (by assumption))); refine Calls.mono (CV.out _ (HT.out.later (HB.out.trans (HX.out.mono HB.out.size)))) ?_; rintro e w2 ⟨rfl, hb⟩; have HB1 := Lib.hid (HX.out.trans (hb.mono HX.out.size)); clear hb))
  go_wp2_with fail
  go_ret
  exact ⟨congrArg (fun y => Ending.returned (.string y)) (HFN.out _ (by simp)), HB.out.trans (HB1.out.mono HB.out.size)⟩
set_option maxHeartbeats 4000000 in
set_option maxRecDepth 100000 in
theorem show6 (sn so : ByteArray) (vs : List Att) (ps : List Flt) (a : Option Addr) (c : Nat) (b : Option Addr) (d : Nat) (w : World) (hT : LaidT w) (hA : AttsAt w (Old w.heap.size) a vs) (hn20 : sn.size ≤ 20) (h0 : 0 < vs.length) (h20 : vs.length ≤ 20) (hvb : ∀ v ∈ vs, valB v = true) (hst0 : ∀ v ∈ vs, v.str.length ≤ 200) (hp0 : ps = []) : Calls Tryz.prog 12 #[.agg #[.int .i64 6, .string sn, .string so, .slice a vs.length c, .slice b ps.length d]] w fun e w' => e = .returned (.string ⟨(showF (.mk 6 sn.data.toList so.data.toList vs ps)).toArray⟩) ∧ Below w.heap.size w w' := by
  subst hp0
  have HT := Lib.hid hT
  have HA := Lib.hid hA
  have HRV := Lib.hid (show ∀ v ∈ vs, rngV v from fun v hv => (hA.2.1 v hv).2.2)
  have HVB := Lib.hid hvb
  have HV2 := Lib.hid hst0
  have HCO := Lib.hid (show ∀ j, (outJ [44, 32] ((vs.take j).map showV)).length ≤ 5000 from fun j => by
    have h1 := outJ_take_len (wd := [44, 32]) (g := showV) (B := 202) (by decide) (fun q hq => showV_len (hvb q hq) (HRV.out q hq)) j
    have h2 : (202 + 5) * vs.length ≤ (202 + 5) * 20 := Nat.mul_le_mul_left _ h20
    omega)
  obtain ⟨res, hres⟩ : ∃ x : ByteArray, x = ⟨(showF (.mk 6 sn.data.toList so.data.toList vs [])).toArray⟩ := ⟨_, rfl⟩
  have HR := Lib.hid (show res.data.toList = (sn.data.toList ++ [32, 105, 110, 32, 40]) ++ (outJ [44, 32] (vs.map showV) ++ [41]) by
    rw [hres]
    match vs, h0 with
    | v :: r, _ => rw [outJ_vs]; simp [showF, wIn])
  rw [← hres]
  obtain ⟨n, hn⟩ : ∃ n, n = vs.length := ⟨_, rfl⟩
  have HL := Lib.hid hn
  rw [← hn] at h20 h0 ⊢
  simp only [List.length_nil]
  clear hT hA hvb hst0 hres hn
  obtain ⟨w1, hw1⟩ : ∃ v, v = w.alloc (.cells #[.int .i64 6, .string sn, .string so, .slice a n c, .slice b 0 d] 25) := ⟨_, rfl⟩
  have X1 := Lib.hid (show Box w1 w.heap.size (.int .i64 6) (.string sn) (.string so) (.slice a n c) (.slice b 0 d) by rw [hw1]; exact Box.new ..)
  have HB := Lib.hid (show Below w.heap.size w w1 by rw [hw1]; exact (Below.refl _ _).alloc (Nat.le_refl _) _)
  have HW := Lib.hid hw1
  clear hw1
  have z0 : ¬ 9223372036854775807 < sn.size + 5 := by omega
  go_enter Tryz.func12, Tryz.ntmps12
  go_wp2_with fail
  rw [← HW.out]
  go_loopw [4, 5] (fun vo vi wr => ShV (sn.data.toList ++ [32, 105, 110, 32, 40]) vs w1 vo vi wr) (fun _ vi _ => n - (intOf vi).toNat)
  case atStart => exact ⟨0, _, Nat.zero_le _, rfl, rfl, by simp [outJ], Below.refl _ _⟩
  case round =>
    obtain ⟨j, co, hk, rfl, rfl, hco, hBB⟩ := hrel
    have HK := Lib.hid hk
    have HC := Lib.hid hco
    have hcl : co.size ≤ 6000 := by
      rw [Lib.size_eq, hco]
      have := HCO.out j
      rw [Lib.size_eq] at hn20
      simp only [List.length_append, List.length_cons, List.length_nil]
      omega
    have HBB := Lib.hid hBB
    have HBW := Lib.hid (HB.out.trans (hBB.mono HB.out.size))
    have X3 := Lib.hid (X1.out.later hBB)
    obtain ⟨p0', p1, p2, p3, p4⟩ := X3.out
    clear hk hco hBB
    by_cases hlt : j < n
    · have hlz : (j : Int) < (n : Int) := by omega
      have hku : j < vs.length := by rw [← HL.out]; exact hlt
      obtain ⟨g, o', hg, hgl, hc⟩ := (HA.out.later HBW.out).2.2 (by omega)
      obtain ⟨e0, e1, e2, e3⟩ := hc j hku
      obtain ⟨U, hU⟩ : ∃ V, V = vs[j] := ⟨_, rfl⟩
      rw [← hU] at e0 e1 e2 e3
      have HUK := Lib.hid (show vs[j]? = some U by rw [hU]; exact List.getElem?_eq_getElem hku)
      have hmU := List.mem_of_getElem? HUK.out
      obtain ⟨s1, q1, _⟩ := bs_bytes U.name
      obtain ⟨t1, q2, f2⟩ := bs_bytes U.str
      rw [q1] at e0
      rw [q2] at e3
      have CI := Lib.hid (fun W h => refValue_any s1 U t1 f2 (HV2.out U hmU) (HRV.out U hmU) W h)
      obtain ⟨st, hst⟩ : ∃ x : ByteArray, x = ⟨(showV U).toArray⟩ := ⟨_, rfl⟩
      have hsl : st.size ≤ 202 := by rw [hst, bytes_size]; exact showV_len (HVB.out U hmU) (HRV.out U hmU)
      rw [← hst] at CI
      have HST := Lib.hid (show st.data.toList = showV U by rw [hst])
      have HSTEP := Lib.hid (outJ_step [44, 32] showV HUK.out)
      obtain ⟨x1, hx1⟩ : ∃ x, x = U.text := ⟨_, rfl⟩
      obtain ⟨y1, hy1⟩ : ∃ x, x = U.num := ⟨_, rfl⟩
      rw [← hx1] at e1 CI
      rw [← hy1] at e2 CI
      have hgw : g < wr.heap.size := Nat.lt_of_lt_of_le hgl HBW.out.size
      have hbw : w.heap.size < wr.heap.size := X3.out.lt
      subst hg
      have z1 : ¬ 9223372036854775807 < co.size + 2 := by omega
      have z2 : ¬ 9223372036854775807 < co.size + 2 + st.size := by omega
      have z3 : ¬ 9223372036854775807 < co.size + st.size := by omega
      clear hU hgl hc q1 q2 f2 hst hx1 hy1 hmU
      by_cases hj0 : j = 0
      · skip
        subst hj0
        have hgz : ¬ ((0 : Nat) : Int) > 0 := by omega
        have hgb : decide (((0 : Nat) : Int) > 0) = false := decide_eq_false hgz
        simp only [Nat.zero_mul, Nat.add_zero] at e0 e1 e2 e3
        go_wp2_with fail
        refine Calls.mono (CI.out _ (HT.out.later HBW.out)) ?_
        rintro e w3 ⟨rfl, hb⟩
        have HB3 := Lib.hid (HBB.out.trans (hb.mono HBB.out.size))
        clear hb
        go_wp2_with fail
        go_roundw
        case rel => first | exact ⟨0 + 1, _, by have := HL.out; omega, rfl, by go_num, (by rw [HSTEP.out, if_pos trivial]; simp [HST.out, HC.out, outJ]), HB3.out⟩ | ((repeat apply Exists.intro); exact ⟨⟨0 + 1, _, by have := HL.out; omega, rfl, by go_num, (by rw [HSTEP.out, if_pos trivial]; simp [HST.out, HC.out, outJ]), HB3.out⟩, rfl⟩)
        case measure => simp [intOf]; omega
      · skip
        have hgz : (j : Int) > 0 := by omega
        have hgb : decide ((j : Int) > 0) = true := decide_eq_true hgz
        go_wp2_with fail
        refine Calls.mono (CI.out _ (HT.out.later HBW.out)) ?_
        rintro e w3 ⟨rfl, hb⟩
        have HB3 := Lib.hid (HBB.out.trans (hb.mono HBB.out.size))
        clear hb
        go_wp2_with fail
        go_roundw
        case rel => first | exact ⟨j + 1, _, by have := HL.out; omega, rfl, by go_num, (by rw [HSTEP.out, if_neg hj0]; simp [HST.out, HC.out]), HB3.out⟩ | ((repeat apply Exists.intro); exact ⟨⟨j + 1, _, by have := HL.out; omega, rfl, by go_num, (by rw [HSTEP.out, if_neg hj0]; simp [HST.out, HC.out]), HB3.out⟩, rfl⟩)
        case measure => simp [intOf]; omega
    · have hlz : ¬ (j : Int) < (n : Int) := by omega
      have z1 : ¬ 9223372036854775807 < co.size + 1 := by omega
      have HF := Lib.hid (show ∀ y : ByteArray, y.data.toList = co.data.toList ++ [41] → y = res from fun y hy => by rw [bs_of HR.out, bs_of hy, HC.out, show j = vs.length by have := HL.out; have := HK.out; omega, List.take_length, List.append_assoc])
      go_wp2_with fail
      go_ret
      exact ⟨congrArg (fun y => Ending.returned (.string y)) (HF.out _ (by simp)), HBW.out⟩
theorem show_ok (f : Flt) (ih : ∀ q ∈ f.parts, ShowOk q) : ShowOk f := by
  obtain ⟨k, nm, o, vs, ps⟩ := f
  intro a c b d w hT hF hf h5
  simp only [Flt.parts] at ih
  have hA := hF.atts
  have hP := hF.parts
  simp only [Flt.vals] at hA
  simp only [Flt.parts] at hP
  have hfs := fine_small hf
  have hfw : wholeB k nm o vs ps.length = true := by
    rw [fine_eq, Bool.and_eq_true] at hf
    exact hf.1
  have h5' : szL ps ≤ 99 := by rw [sz] at h5; omega
  show Calls _ _ #[.agg #[.int .i64 k, bs nm, bs o, .slice a vs.length c, .slice b ps.length d]] _ _
  obtain ⟨sn, en, hsn⟩ := bs_bytes nm
  obtain ⟨so, eo, hso⟩ := bs_bytes o
  rw [en, eo]
  rw [← hsn, ← hso] at hfw ⊢
  have hn20 : sn.size ≤ 20 := by rw [Lib.size_eq, hsn]; exact hfs.1
  have ho2 : so.size ≤ 2 := by rw [Lib.size_eq, hso]; exact hfs.2.1
  have hvs : ∀ v ∈ vs, v.str.length ≤ 200 := fun v hv => (hfs.2.2.2.1 v hv).2
  unfold wholeB at hfw
  by_cases h1 : k = 1
  · subst h1
    rw [if_pos (by omega)] at hfw
    simp [bareB] at hfw
    exact show1 sn so vs ps a c b d w hT hP ih hfs.2.2.2.2 h5' (by omega) (by simpa using hfw.1.2)
  by_cases h2 : k = 2
  · subst h2
    rw [if_pos (by omega)] at hfw
    simp [bareB] at hfw
    exact show2 sn so vs ps a c b d w hT hP ih hfs.2.2.2.2 h5' (by omega) (by simpa using hfw.1.2)
  rw [if_neg (by omega)] at hfw
  by_cases h3 : k = 3
  · subst h3
    rw [if_pos rfl] at hfw
    simp [bareB] at hfw
    exact show3 sn so vs ps a c b d w hT hP ih hfs.2.2.2.2 h5' hfw.2 (by simpa using hfw.1.2)
  rw [if_neg h3] at hfw
  by_cases h7 : k = 7
  · subst h7
    rw [if_pos rfl] at hfw
    simp [bareB] at hfw
    exact show7 sn so vs ps a c b d w (by simpa using hfw.1.2) (by simpa using hfw.2)
  rw [if_neg h7] at hfw
  by_cases h4 : k = 4
  · subst h4
    rw [if_pos rfl] at hfw
    simp [leafQ] at hfw
    exact show4 sn so vs ps a c b d w hT hA hn20 ho2 hfw.2 hvs hfw.1.1.1.1.1
  rw [if_neg h4] at hfw
  by_cases h5k : k = 5
  · subst h5k
    rw [if_pos rfl] at hfw
    simp [leafQ] at hfw
    exact show5 sn so vs ps a c b d w hT hA hn20 ho2 hfw.1.2 hvs hfw.1.1.1.1.1.1
  rw [if_neg h5k] at hfw
  by_cases h6 : k = 6
  · subst h6
    rw [if_pos rfl] at hfw
    simp [leafQ] at hfw
    exact show6 sn so vs ps a c b d w hT hA hn20 (by cases vs <;> simp_all) hfs.2.2.1 hfw.1.1.1.2 hvs hfw.1.1.1.1.1.1
  rw [if_neg h6] at hfw
  cases hfw
theorem show_all : ∀ (N : Nat) (f : Flt), sz f ≤ N → ShowOk f
  | 0, f, h => by have := sz_pos f; omega
  | N + 1, f, h => show_ok f fun q hq => show_all N q (by
      cases f
      simp only [Flt.parts] at hq
      have := sz_mem hq
      rw [sz] at h
      omega)
end Go.Proofs.YtjffnjiggcfhcaaGreatDoor.Fl
