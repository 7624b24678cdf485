/-
  The walk of EvalLaws: it returns true. Memory that was there is left as it was.
-/
import Derived.Test.YtcajcmaldnmbjaaMl07
import Derived.Test.YtcajcmaldnmbjaaMl08
import Derived.Test.YtcajcmaldnmbjaaMl09
import Derived.Deep.Cut
import Derived.Deep.CutRange
namespace Go.Proofs.Ytcajcmaldnmbjaa.Ev
open Go.RowKit Go.Maps Go.Proofs.Ytcajcmaldnmbjaa.Fl Go.Proofs.Ytcajcmaldnmbjaa.Tk Go.Proofs.Ytcajcmaldnmbjaa.Ck
set_option linter.unusedVariables false
set_option linter.unusedSimpArgs false

theorem lies_laterA {W V : World} {B g o : Nat} {xs : List Value} (hb : Below B W V) (hg : g < B) (h : ∀ j u, xs[j]? = some u → W.cell? ((⟨g, o, none⟩ : Addr).add j) = some u) : ∀ j u, xs[j]? = some u → V.cell? ((⟨g, o, none⟩ : Addr).add j) = some u := fun j u hu => by
  rw [← h j u hu]
  exact World.cell?_of_block (w := W) (w' := V) (a := (⟨g, o, none⟩ : Addr).add j) (by rw [show ((⟨g, o, none⟩ : Addr).add j).block = g by unfold Addr.add; split <;> simp_all]; exact hb.block g hg)
def andF (f g : Flt) : Flt := .mk 1 [] [] [] [f, g]
def orF (f g : Flt) : Flt := .mk 2 [] [] [] [notF f, notF g]
/-- What lies behind the law's 'or'. -/
def OrR (f g : Flt) (w W : World) (v : Value) : Prop := ∃ o h, v = .pointer (some ⟨o, 0, none⟩) ∧ RwF W o #[.int .i64 2, .string ⟨#[]⟩, .string ⟨#[]⟩, .slice none 0 0, .slice (some ⟨h, 0, none⟩) 2 2] ∧ FltAt W (Old W.heap.size) (orF f g) none (some ⟨h, 0, none⟩) ∧ Below w.heap.size w W
def NlR (L : List Nm) (s : Nm) (w : World) (vi : Value) (wr : World) : Prop :=
  ∃ i : Nat, i ≤ L.length ∧ vi = .int .i64 i ∧ Hid (∀ j y, j < i → L[j]? = some y → ¬ y = s) ∧ Below w.heap.size w wr
set_option maxHeartbeats 40000000 in
set_option maxRecDepth 100000 in
theorem lawLaws (f : Flt) (a : Option Addr) (c : Nat) (b : Option Addr) (d : Nat) (g : Flt) (a' : Option Addr) (c' : Nat) (b' : Option Addr) (d' : Nat) (l : List Att) (la : Option Addr) (lc : Nat) (m : Att) (w : World) (hF : FltAt w (Old w.heap.size) f a b) (hG : FltAt w (Old w.heap.size) g a' b') (hA : AttsAt w (Old w.heap.size) la l) (hM : attOk m) (h2 : (nms f).length ≤ 2000000) (h40 : ∀ x ∈ nms f, x.length ≤ 281474976710656) :
    Calls Try.prog 4 #[.agg #[.int .i64 f.kind, bs f.name, bs f.op, .slice a f.vals.length c, .slice b f.parts.length d], .agg #[.int .i64 g.kind, bs g.name, bs g.op, .slice a' g.vals.length c', .slice b' g.parts.length d'], .slice la l.length lc, .agg #[bs m.name, .bool m.text, .int .i64 m.num, bs m.str]] w fun e w' => e = .returned (.bool true) ∧ Below w.heap.size w w' := by
  have C1f := Lib.hid (fun W h1 h2 => evalHolds_any f l a c b d la lc W h1 h2)
  have C1g := Lib.hid (fun W h1 h2 => evalHolds_any g l a' c' b' d' la lc W h1 h2)
  have CFf := Lib.hid (fun W h1 => few_any f a c b d W h1)
  have CFg := Lib.hid (fun W h1 => few_any g a' c' b' d' W h1)
  have CA := Lib.hid (fun W h1 => attrs40 l la lc W h1)
  have CNf := Lib.hid (fun W h1 => not_any f a c b d W h1)
  have CNg := Lib.hid (fun W h1 => not_any g a' c' b' d' W h1)
  have CRf := Lib.hid (fun W => not_row f a c b d W)
  have CRg := Lib.hid (fun W => not_row g a' c' b' d' W)
  have CNN := Lib.hid (fun (h : Nat) W h1 => not_any (notF f) none 0 (some ⟨h, 0, none⟩) 1 W h1)
  have HNf := Lib.hid (fun (h : Nat) W h1 h2 => evalHolds_any (notF f) l none 0 (some ⟨h, 0, none⟩) 1 la lc W h1 h2)
  have HNN := Lib.hid (fun (h : Nat) W h1 h2 => evalHolds_any (notF (notF f)) l none 0 (some ⟨h, 0, none⟩) 1 la lc W h1 h2)
  have HAN := Lib.hid (fun (h : Nat) W h1 h2 => evalHolds_any (andF f g) l none 0 (some ⟨h, 0, none⟩) 2 la lc W h1 h2)
  have HOR := Lib.hid (fun (h : Nat) W h1 h2 => evalHolds_any (orF f g) l none 0 (some ⟨h, 0, none⟩) 2 la lc W h1 h2)
  have CM := Lib.hid (fun (x : Option Addr) (n' : Nat) W h1 h2 => evalHolds_any f (m :: l) a c b d x n' W h1 h2)
  have CNA := Lib.hid (fun W h1 => refNames_any f a c b d W h1 h2 h40)
  have HMO := Lib.hid (fun (h0 : ¬ m.name = []) (h : m.name ∉ nms f) => holds_more (l := l) h0 f h)
  have HLN := Lib.hid (show (sortN (nms f)).length ≤ 2000000 ∧ ∀ x ∈ sortN (nms f), x.length ≤ maxLen from ⟨by have := length_sortN (nms f); omega, fun x hx => by rw [mem_sortN] at hx; have := h40 x hx; unfold maxLen; omega⟩)
  rw [holds_not, holds_not] at HNN
  rw [holds_not] at HNf
  rw [show holdsB l (andF f g) = (holdsB l f && holdsB l g) from holds_and l f g] at HAN
  rw [show holdsB l (orF f g) = !(holdsB l f && holdsB l g) from holds_or l f g] at HOR
  simp only [notF, Flt.kind, Flt.name, Flt.op, Flt.vals, Flt.parts, List.length_cons, List.length_nil, Nat.zero_add, show bs [] = .string ⟨#[]⟩ from rfl] at CNN HNf HNN
  simp only [show (andF f g).kind = 1 from rfl, show (andF f g).name = [] from rfl, show (andF f g).op = [] from rfl, show (andF f g).vals.length = 0 from rfl, show (andF f g).parts.length = 2 from rfl, show bs [] = .string ⟨#[]⟩ from rfl] at HAN
  simp only [show (orF f g).kind = 2 from rfl, show (orF f g).name = [] from rfl, show (orF f g).op = [] from rfl, show (orF f g).vals.length = 0 from rfl, show (orF f g).parts.length = 2 from rfl, show bs [] = .string ⟨#[]⟩ from rfl] at HOR
  rw [show Flt.mk 3 [] [] [] [f] = notF f from rfl] at HNf
  have TWOA := Lib.hid (fun W h (hr : RwF W h (fltC f a c b d ++ fltC g a' c' b' d').toArray) h1 h2 => show FltAt W (Old W.heap.size) (andF f g) none (some ⟨h, 0, none⟩) from two_at (k := 1) ⟨by omega, by omega⟩ hr h1 h2)
  have TWOO := Lib.hid (fun W h (h3 h4 : Nat) (hr : RwF W h (fltC (notF f) none 0 (some ⟨h3, 0, none⟩) 1 ++ fltC (notF g) none 0 (some ⟨h4, 0, none⟩) 1).toArray) h1 h2 => show FltAt W (Old W.heap.size) (orF f g) none (some ⟨h, 0, none⟩) from two_at (k := 2) ⟨by omega, by omega⟩ hr h1 h2)
  simp only [fltC, List.cons_append, List.nil_append] at TWOA
  simp only [fltC, List.cons_append, List.nil_append, show ∀ q, (notF q).kind = 3 from fun _ => rfl, show ∀ q, (notF q).name = [] from fun _ => rfl, show ∀ q, (notF q).op = [] from fun _ => rfl, show ∀ q, (notF q).vals.length = 0 from fun _ => rfl, show ∀ q, (notF q).parts.length = 1 from fun _ => rfl, show bs [] = .string ⟨#[]⟩ from rfl] at TWOO
  obtain ⟨r, hr⟩ : ∃ r, r = holdsB l f := ⟨_, rfl⟩
  obtain ⟨q, hq⟩ : ∃ r, r = holdsB l g := ⟨_, rfl⟩
  obtain ⟨rm, hrm⟩ : ∃ r, r = holdsB (m :: l) f := ⟨_, rfl⟩
  obtain ⟨L, hL⟩ : ∃ r, r = sortN (nms f) := ⟨_, rfl⟩
  have HMEM := Lib.hid (show m.name ∈ nms f → m.name ∈ L by rw [hL, mem_sortN]; exact id)
  obtain ⟨sn, en, _⟩ := bs_bytes f.name
  obtain ⟨so, eo, _⟩ := bs_bytes f.op
  obtain ⟨k, hqk⟩ : ∃ x, x = f.kind := ⟨_, rfl⟩
  obtain ⟨nv, hqv⟩ : ∃ x, x = f.vals.length := ⟨_, rfl⟩
  obtain ⟨np, hqp⟩ : ∃ x, x = f.parts.length := ⟨_, rfl⟩
  obtain ⟨sn', en', _⟩ := bs_bytes g.name
  obtain ⟨so', eo', _⟩ := bs_bytes g.op
  obtain ⟨k', hqk'⟩ : ∃ x, x = g.kind := ⟨_, rfl⟩
  obtain ⟨nv', hqv'⟩ : ∃ x, x = g.vals.length := ⟨_, rfl⟩
  obtain ⟨np', hqp'⟩ : ∃ x, x = g.parts.length := ⟨_, rfl⟩
  obtain ⟨n, hn⟩ : ∃ x, x = l.length := ⟨_, rfl⟩
  obtain ⟨mn, emn, hmn⟩ := bs_bytes m.name
  obtain ⟨ms, ems, hms⟩ := bs_bytes m.str
  obtain ⟨mt, hmt⟩ : ∃ x, x = m.text := ⟨_, rfl⟩
  obtain ⟨mi, hmi⟩ : ∃ x, x = m.num := ⟨_, rfl⟩
  rw [en, eo, ← hqk, ← hqv, ← hqp, ← hn, ← hr] at C1f
  rw [en', eo', ← hqk', ← hqv', ← hqp', ← hn, ← hq] at C1g
  rw [en, eo, ← hqk, ← hqv, ← hqp] at CFf CNf CRf
  rw [en', eo', ← hqk', ← hqv', ← hqp'] at CFg CNg CRg
  rw [← hn] at CA
  rw [← hr, ← hn] at HNf HNN
  rw [← hr, ← hq, ← hn] at HAN HOR
  rw [en, eo, ← hqk, ← hqv, ← hqp, ← hrm] at CM
  rw [en, eo, ← hqk, ← hqv, ← hqp, ← hL] at CNA
  rw [← hrm, ← hr] at HMO
  rw [← hL] at HLN
  rw [en, eo, ← hqk, ← hqv, ← hqp, en', eo', ← hqk', ← hqv', ← hqp'] at TWOA
  rw [en, eo, ← hqk, ← hqv, ← hqp, en', eo', ← hqk', ← hqv', ← hqp', emn, ems, ← hmt, ← hmi, ← hn]
  have HN := Lib.hid hn
  have HMN := Lib.hid hmn
  have HME := Lib.hid (show m = AttL mn mt mi ms by unfold AttL; rw [hmn, hms, hmt, hmi])
  have HMK := Lib.hid hM
  obtain ⟨w1, hw1⟩ : ∃ v, v = ((w.alloc (.cells #[.int .i64 k, .string sn, .string so, .slice a nv c, .slice b np d] 25)).alloc (.cells #[.int .i64 k', .string sn', .string so', .slice a' nv' c', .slice b' np' d'] 25)).alloc (.cells #[.string mn, .bool mt, .int .i64 mi, .string ms] 31) := ⟨_, rfl⟩
  have HB1 := Lib.hid (show Below w.heap.size w w1 by rw [hw1]; exact (((Below.refl _ _).alloc (Nat.le_refl _) _).alloc (by simp) _).alloc (by simp; omega) _)
  have X1 := Lib.hid (show Box w1 w.heap.size (.int .i64 k) (.string sn) (.string so) (.slice a nv c) (.slice b np d) by rw [hw1]; refine ⟨?_, ?_, ?_, ?_, ?_⟩ <;> simp [go_sem])
  have Y1 := Lib.hid (show Box w1 (w.heap.size + 1) (.int .i64 k') (.string sn') (.string so') (.slice a' nv' c') (.slice b' np' d') by rw [hw1]; refine ⟨?_, ?_, ?_, ?_, ?_⟩ <;> simp [go_sem])
  have Z1 := Lib.hid (show Blk w1 (w.heap.size + 2) (.string mn) (.bool mt) (.int .i64 mi) (.string ms) by rw [hw1]; refine ⟨?_, ?_, ?_, ?_, fun o => ?_, ?_⟩ <;> simp [go_sem])
  have HS1 := Lib.hid (show w.heap.size + 3 ≤ w1.heap.size by rw [hw1]; simp)
  have HW1 := Lib.hid hw1
  have KEEP := Lib.hid (fun W (hW : Below w1.heap.size w1 W) => And.intro (X1.out.later hW) (And.intro (Y1.out.later hW) (And.intro (Z1.out.later hW) (HB1.out.trans (hW.mono HB1.out.size)))))
  have HF := Lib.hid (fun W (hW : Below w1.heap.size w1 W) => fltFit hF (HB1.out.trans (hW.mono HB1.out.size)) (HB1.out.trans (hW.mono HB1.out.size)).size)
  have HG := Lib.hid (fun W (hW : Below w1.heap.size w1 W) => fltFit hG (HB1.out.trans (hW.mono HB1.out.size)) (HB1.out.trans (hW.mono HB1.out.size)).size)
  have HA := Lib.hid (fun W (hW : Below w1.heap.size w1 W) => attsFit hA (HB1.out.trans (hW.mono HB1.out.size)) (HB1.out.trans (hW.mono HB1.out.size)).size)
  have ONEF := Lib.hid (fun W (hW : Below w1.heap.size w1 W) h (hr : RwF W h (fltC f a c b d).toArray) => show FltAt W (Old W.heap.size) (notF f) none (some ⟨h, 0, none⟩) from one_at (k := 3) ⟨by omega, by omega⟩ hr (HF.out W hW))
  have ONEG := Lib.hid (fun W (hW : Below w1.heap.size w1 W) h (hr : RwF W h (fltC g a' c' b' d').toArray) => show FltAt W (Old W.heap.size) (notF g) none (some ⟨h, 0, none⟩) from one_at (k := 3) ⟨by omega, by omega⟩ hr (HG.out W hW))
  have CU := Lib.hid (up_any w1)
  have C1 := Lib.hid (Below.refl w1.heap.size w1)
  clear hw1 hr hq hrm hL en eo hqk hqv hqp en' eo' hqk' hqv' hqp' hn emn hmn ems hms hmt hmi hF hG hA hM h2 h40
  obtain ⟨⟨p0, p1, p2, p3, p4⟩, ⟨q0, q1, q2, q3, q4⟩, ⟨z0, z1, z2, z3, -, -⟩, -⟩ := KEEP.out _ C1.out
  go_enter Try.func4, Try.ntmps4
  go_wp2_with fail
  rw [← HW1.out]
  refine Calls.mono (CU.out) ?_
  rintro e w2 ⟨rfl, hb⟩
  have C2 := Lib.hid (C1.out.trans (hb.mono C1.out.size))
  clear hb p0 p1 p2 p3 p4 q0 q1 q2 q3 q4 z0 z1 z2 z3
  obtain ⟨⟨p0, p1, p2, p3, p4⟩, ⟨q0, q1, q2, q3, q4⟩, ⟨z0, z1, z2, z3, -, -⟩, -⟩ := KEEP.out _ C2.out
  go_wp2_with fail
  refine Calls.mono (CFf.out _ (HF.out _ C2.out)) ?_
  rintro e w3 ⟨⟨r1, rfl, -⟩, hb⟩
  have C3 := Lib.hid (C2.out.trans (hb.mono C2.out.size))
  clear hb p0 p1 p2 p3 p4 q0 q1 q2 q3 q4 z0 z1 z2 z3
  obtain ⟨⟨p0, p1, p2, p3, p4⟩, ⟨q0, q1, q2, q3, q4⟩, ⟨z0, z1, z2, z3, -, -⟩, -⟩ := KEEP.out _ C3.out
  go_wp2_with fail
  refine Calls.mono (CFg.out _ (HG.out _ C3.out)) ?_
  rintro e w4 ⟨⟨r2, rfl, -⟩, hb⟩
  have C4 := Lib.hid (C3.out.trans (hb.mono C3.out.size))
  clear hb p0 p1 p2 p3 p4 q0 q1 q2 q3 q4 z0 z1 z2 z3
  obtain ⟨⟨p0, p1, p2, p3, p4⟩, ⟨q0, q1, q2, q3, q4⟩, ⟨z0, z1, z2, z3, -, -⟩, -⟩ := KEEP.out _ C4.out
  go_wp2_with fail
  refine Calls.mono (CA.out _ (HA.out _ C4.out)) ?_
  rintro e w5 ⟨⟨r3, rfl, hr3⟩, rfl⟩
  cases r1 with
  | false =>
    go_wp2_with fail
    go_ret
    exact ⟨rfl, (KEEP.out _ C4.out).2.2.2⟩
  | true =>
  cases r2 with
  | false =>
    go_wp2_with fail
    go_ret
    exact ⟨rfl, (KEEP.out _ C4.out).2.2.2⟩
  | true =>
  cases r3 with
  | false =>
    go_wp2_with fail
    go_ret
    exact ⟨rfl, (KEEP.out _ C4.out).2.2.2⟩
  | true =>
  have hn40 : n ≤ 40 := hr3 rfl
  clear hr3
  by_cases hsz : 300 < ms.size
  · have hszz : (300 : Int) < (ms.size : Int) := by omega
    go_wp2_with fail
    go_ret
    exact ⟨rfl, (KEEP.out _ C4.out).2.2.2⟩
  have hszz : ¬ (300 : Int) < (ms.size : Int) := by omega
  by_cases hmt0 : mn.data.toList = []
  · obtain rfl : mn = ⟨#[]⟩ := eq_list (y := ⟨#[]⟩) hmt0
    go_wp2_with fail
    go_ret
    exact ⟨rfl, (KEEP.out _ C4.out).2.2.2⟩
  have HNE := Lib.hid hmt0
  have hszb : decide ((300 : Int) < (ms.size : Int)) = false := decide_eq_false hszz
  have n3 : mn.toList.isEmpty = false := by
    rw [Lib.toList_data]
    cases h : mn.data.toList with
    | nil => exact absurd h hmt0
    | cons x y => rfl
  clear hmt0 hsz
  go_wp2_with fail
  refine Calls.mono (C1f.out _ (HF.out _ C4.out) (HA.out _ C4.out)) ?_
  rintro e w6 ⟨rfl, hb⟩
  have C6 := Lib.hid (C4.out.trans (hb.mono C4.out.size))
  clear hb p0 p1 p2 p3 p4 q0 q1 q2 q3 q4 z0 z1 z2 z3
  obtain ⟨⟨p0, p1, p2, p3, p4⟩, ⟨q0, q1, q2, q3, q4⟩, ⟨z0, z1, z2, z3, -, -⟩, -⟩ := KEEP.out _ C6.out
  go_wp2_with fail
  refine Calls.mono (C1g.out _ (HG.out _ C6.out) (HA.out _ C6.out)) ?_
  rintro e w7 ⟨rfl, hb⟩
  have C7 := Lib.hid (C6.out.trans (hb.mono C6.out.size))
  clear hb p0 p1 p2 p3 p4 q0 q1 q2 q3 q4 z0 z1 z2 z3
  obtain ⟨⟨p0, p1, p2, p3, p4⟩, ⟨q0, q1, q2, q3, q4⟩, ⟨z0, z1, z2, z3, -, -⟩, -⟩ := KEEP.out _ C7.out
  have hx1 : ((!r) == r) = false := by cases r <;> rfl
  go_wp2_with fail
  refine Calls.mono (CNf.out _ (HF.out _ C7.out)) ?_
  rintro e w8 ⟨⟨h1, rfl, hN1⟩, hb⟩
  have C8 := Lib.hid (C7.out.trans (hb.mono C7.out.size))
  clear hb p0 p1 p2 p3 p4 q0 q1 q2 q3 q4 z0 z1 z2 z3
  obtain ⟨⟨p0, p1, p2, p3, p4⟩, ⟨q0, q1, q2, q3, q4⟩, ⟨z0, z1, z2, z3, -, -⟩, -⟩ := KEEP.out _ C8.out
  go_wp2_with fail
  refine Calls.mono (HNf.out _ _ hN1 (HA.out _ C8.out)) ?_
  rintro e w9 ⟨rfl, hb⟩
  have C9 := Lib.hid (C8.out.trans (hb.mono C8.out.size))
  clear hN1
  clear hb p0 p1 p2 p3 p4 q0 q1 q2 q3 q4 z0 z1 z2 z3
  obtain ⟨⟨p0, p1, p2, p3, p4⟩, ⟨q0, q1, q2, q3, q4⟩, ⟨z0, z1, z2, z3, -, -⟩, -⟩ := KEEP.out _ C9.out
  go_wp2_with fail
  refine Calls.mono (CNf.out _ (HF.out _ C9.out)) ?_
  rintro e w10 ⟨⟨h2, rfl, hN2⟩, hb⟩
  have C10 := Lib.hid (C9.out.trans (hb.mono C9.out.size))
  clear hb p0 p1 p2 p3 p4 q0 q1 q2 q3 q4 z0 z1 z2 z3
  obtain ⟨⟨p0, p1, p2, p3, p4⟩, ⟨q0, q1, q2, q3, q4⟩, ⟨z0, z1, z2, z3, -, -⟩, -⟩ := KEEP.out _ C10.out
  go_wp2_with fail
  refine Calls.mono (CNN.out _ _ hN2) ?_
  rintro e w11 ⟨⟨h3, rfl, hN3⟩, hb⟩
  have C11 := Lib.hid (C10.out.trans (hb.mono C10.out.size))
  clear hN2
  clear hb p0 p1 p2 p3 p4 q0 q1 q2 q3 q4 z0 z1 z2 z3
  obtain ⟨⟨p0, p1, p2, p3, p4⟩, ⟨q0, q1, q2, q3, q4⟩, ⟨z0, z1, z2, z3, -, -⟩, -⟩ := KEEP.out _ C11.out
  go_wp2_with fail
  refine Calls.mono (HNN.out _ _ hN3 (HA.out _ C11.out)) ?_
  rintro e w12 ⟨rfl, hb⟩
  have C12 := Lib.hid (C11.out.trans (hb.mono C11.out.size))
  clear hN3
  clear hb p0 p1 p2 p3 p4 q0 q1 q2 q3 q4 z0 z1 z2 z3
  obtain ⟨⟨p0, p1, p2, p3, p4⟩, ⟨q0, q1, q2, q3, q4⟩, ⟨z0, z1, z2, z3, -, -⟩, -⟩ := KEEP.out _ C12.out
  go_wp2_with fail
  obtain ⟨w13, hw13⟩ : ∃ v, v = (w12.alloc (.cells #[.int .i64 k, .string sn, .string so, .slice a nv c, .slice b np d, .int .i64 k', .string sn', .string so', .slice a' nv' c', .slice b' np' d'] 25)).alloc (.cells #[.int .i64 1, .string ⟨#[]⟩, .string ⟨#[]⟩, .slice none 0 0, .slice (some ⟨w12.heap.size, 0, none⟩) 2 2] 25) := ⟨_, rfl⟩
  obtain ⟨s12, hs12⟩ : ∃ z, z = w12.heap.size := ⟨_, rfl⟩
  have C13 := Lib.hid (show Below w1.heap.size w1 w13 by rw [hw13]; exact (C12.out.alloc C12.out.size _).alloc (by have := C12.out.size; simp; omega) _)
  have RA := Lib.hid (show RwF w13 s12 #[.int .i64 k, .string sn, .string so, .slice a nv c, .slice b np d, .int .i64 k', .string sn', .string so', .slice a' nv' c', .slice b' np' d'] by rw [hw13, hs12]; exact (RwF.new w12 _).later ((Below.refl _ _).alloc (Nat.le_refl _) _))
  have RB := Lib.hid (show RwF w13 (s12 + 1) #[.int .i64 1, .string ⟨#[]⟩, .string ⟨#[]⟩, .slice none 0 0, .slice (some ⟨s12, 0, none⟩) 2 2] by
    rw [hw13, hs12, show w12.heap.size + 1 = (w12.alloc (.cells #[.int .i64 k, .string sn, .string so, .slice a nv c, .slice b np d, .int .i64 k', .string sn', .string so', .slice a' nv' c', .slice b' np' d'] 25)).heap.size by simp]
    exact RwF.new ..)
  have FA13 := Lib.hid (TWOA.out w13 s12 RA.out (HF.out _ C13.out) (HG.out _ C13.out))
  have HW13 := Lib.hid hw13
  rw [← HW13.out, ← hs12]
  clear hw13 hs12 p0 p1 p2 p3 p4 q0 q1 q2 q3 q4 z0 z1 z2 z3
  go_upto_region 14 with fail
  go_cut [18] from 21 (fun s18 wx => OrR f g w13 wx s18)
  case first =>
    obtain ⟨wd, hwd⟩ : ∃ v, v = w13.drew := ⟨_, rfl⟩
    have HD13 := Lib.hid (show Below w13.heap.size w13 wd by rw [hwd]; exact (Below.refl _ _).drew)
    have C13d := Lib.hid (C13.out.trans (HD13.out.mono C13.out.size))
    have HWD := Lib.hid hwd
    have HS := Lib.hid (show ∀ W, Below wd.heap.size wd W → (fun W => W.cell? ⟨w.heap.size, 0, none⟩ = some (.int .i64 k) ∧ W.cell? ⟨w.heap.size, 1, none⟩ = some (.string sn) ∧ W.cell? ⟨w.heap.size, 2, none⟩ = some (.string so) ∧ W.cell? ⟨w.heap.size, 3, none⟩ = some (.slice a nv c) ∧ W.cell? ⟨w.heap.size, 4, none⟩ = some (.slice b np d) ∧ W.cell? ⟨w.heap.size + 1, 0, none⟩ = some (.int .i64 k') ∧ W.cell? ⟨w.heap.size + 1, 1, none⟩ = some (.string sn') ∧ W.cell? ⟨w.heap.size + 1, 2, none⟩ = some (.string so') ∧ W.cell? ⟨w.heap.size + 1, 3, none⟩ = some (.slice a' nv' c') ∧ W.cell? ⟨w.heap.size + 1, 4, none⟩ = some (.slice b' np' d')) W from fun W hW => by
      obtain ⟨⟨p0, p1, p2, p3, p4⟩, ⟨q0, q1, q2, q3, q4⟩, -, -⟩ := KEEP.out _ (C13d.out.trans (hW.mono C13d.out.size))
      exact ⟨p0, p1, p2, p3, p4, q0, q1, q2, q3, q4⟩)
    clear hwd
    refine wp_region_held_drew (S := (fun W => W.cell? ⟨w.heap.size, 0, none⟩ = some (.int .i64 k) ∧ W.cell? ⟨w.heap.size, 1, none⟩ = some (.string sn) ∧ W.cell? ⟨w.heap.size, 2, none⟩ = some (.string so) ∧ W.cell? ⟨w.heap.size, 3, none⟩ = some (.slice a nv c) ∧ W.cell? ⟨w.heap.size, 4, none⟩ = some (.slice b np d) ∧ W.cell? ⟨w.heap.size + 1, 0, none⟩ = some (.int .i64 k') ∧ W.cell? ⟨w.heap.size + 1, 1, none⟩ = some (.string sn') ∧ W.cell? ⟨w.heap.size + 1, 2, none⟩ = some (.string so') ∧ W.cell? ⟨w.heap.size + 1, 3, none⟩ = some (.slice a' nv' c') ∧ W.cell? ⟨w.heap.size + 1, 4, none⟩ = some (.slice b' np' d'))) (by kernel_rfl) (by rw [← HWD.out]; exact HS.out _ (Below.refl _ _)) (fun hHeld => ?_)
    rw [← HWD.out] at hHeld ⊢
    refine wpAnyH_take (i := 0) (v := ?vR0) rfl (by kernel_rfl) (by kernel_rfl) (by kernel_rfl) (fun _ _ _ h => h) (Or.inl ⟨by rfl, ?yR0⟩) hHeld ?rR0
    case yR0 => (intro W hSw; simp only [List.getElem_toArray, List.getElem_cons_zero]; go_simp; try (with_reducible rfl))
    simp only [List.getElem_toArray, List.getElem_cons_zero, Act.put, List.setIfInBounds_toArray, List.set_cons_zero, List.set_cons_succ]
    refine wpAnyH_take (i := 1) (v := ?vR1) rfl (by kernel_rfl) (by kernel_rfl) (by kernel_rfl) (fun _ _ _ h => h) (Or.inl ⟨by rfl, ?yR1⟩) hHeld ?rR1
    case yR1 => (intro W hSw; simp only [List.getElem_toArray, List.getElem_cons_succ, List.getElem_cons_zero]; go_simp; try (with_reducible rfl))
    simp only [List.getElem_toArray, List.getElem_cons_succ, List.getElem_cons_zero, Act.put, List.setIfInBounds_toArray, List.set_cons_zero, List.set_cons_succ]
    refine wpAnyH_take (i := 3) (v := ?vR3) rfl (by kernel_rfl) (by kernel_rfl) (by kernel_rfl) (fun _ _ _ h => h) (Or.inl ⟨by rfl, ?yR3⟩) hHeld ?rR3
    case yR3 => (intro W hSw; simp only [List.getElem_toArray, List.getElem_cons_succ, List.getElem_cons_zero]; go_simp; try (with_reducible rfl))
    simp only [List.getElem_toArray, List.getElem_cons_succ, List.getElem_cons_zero, Act.put, List.setIfInBounds_toArray, List.set_cons_zero, List.set_cons_succ]
    refine wpAnyH_take (i := 4) (v := ?vR4) rfl (by kernel_rfl) (by kernel_rfl) (by kernel_rfl) (fun _ _ _ h => h) (Or.inl ⟨by rfl, ?yR4⟩) hHeld ?rR4
    case yR4 => (intro W hSw; simp only [List.getElem_toArray, List.getElem_cons_succ, List.getElem_cons_zero]; go_simp; try (with_reducible rfl))
    simp only [List.getElem_toArray, List.getElem_cons_succ, List.getElem_cons_zero, Act.put, List.setIfInBounds_toArray, List.set_cons_zero, List.set_cons_succ]
    have B0 := Lib.hid (Below.refl wd.heap.size wd)
    refine wpAnyH_ready (rs := [2, 8]) (by kernel_rfl) (by simp) (AllReadyH.cons rfl (fun K hK => ?_) (AllReadyH.cons rfl (fun K hK => ?_) AllReadyH.nil))
    · simp only [List.getElem_toArray, List.getElem_cons_succ, List.getElem_cons_zero]
      go_simp
      go_at_call 10; refine Calls.mono (CRf.out _) ?_; rintro e W2 ⟨⟨ha, rfl, hle, hrw⟩, hbb⟩
      try go_wp2_with fail
      have B1 := Lib.hid (B0.out.trans (hbb.mono B0.out.size))
      have NA1 := Lib.hid hrw
      have LNA := Lib.hid (show wd.heap.size ≤ ha from hle)
      clear hbb hrw hle
      refine hK.out _ _ (HS.out _ B1.out) (fun hHeld1 => ?_)
      clear hK K hHeld
      have hHeld := hHeld1; clear hHeld1
      try simp only [List.getElem_toArray, List.getElem_cons_succ, List.getElem_cons_zero, Act.put, List.setIfInBounds_toArray, List.set_cons_zero, List.set_cons_succ]
      refine wpAnyH_ready (rs := [5, 8]) (by kernel_rfl) (by simp) (AllReadyH.cons rfl (fun K hK => ?_) (AllReadyH.cons rfl (fun K hK => ?_) AllReadyH.nil))
      · simp only [List.getElem_toArray, List.getElem_cons_succ, List.getElem_cons_zero]
        go_simp
        go_at_call 10; refine Calls.mono (CRg.out _) ?_; rintro e W25 ⟨⟨hb0, rfl, hle, hrw⟩, hbb⟩
        try go_wp2_with fail
        have B2 := Lib.hid (B1.out.trans (hbb.mono B1.out.size))
        have NA2 := Lib.hid (NA1.out.later hbb)
        have NB2 := Lib.hid hrw
        have LNB := Lib.hid (show W2.heap.size ≤ hb0 from hle)
        clear hbb hrw hle
        refine hK.out _ _ (HS.out _ B2.out) (fun hHeld1 => ?_)
        clear hK K hHeld
        have hHeld := hHeld1; clear hHeld1
        try simp only [List.getElem_toArray, List.getElem_cons_succ, List.getElem_cons_zero, Act.put, List.setIfInBounds_toArray, List.set_cons_zero, List.set_cons_succ]
        refine wpAnyH_ready (rs := [6, 8]) (by kernel_rfl) (by simp) (AllReadyH.cons rfl (fun K hK => ?_) (AllReadyH.cons rfl (fun K hK => ?_) AllReadyH.nil))
        · simp only [List.getElem_toArray, List.getElem_cons_succ, List.getElem_cons_zero]
          go_simp
          obtain ⟨W256, hWn⟩ : ∃ v, v = W25.alloc (.cells #[.int .i64 3, .string ⟨#[]⟩, .string ⟨#[]⟩, .slice none 0 0, .slice (some ⟨ha, 0, none⟩) 1 1, .int .i64 3, .string ⟨#[]⟩, .string ⟨#[]⟩, .slice none 0 0, .slice (some ⟨hb0, 0, none⟩) 1 1] 25) := ⟨_, rfl⟩
          rw [← hWn]
          have hbb : Below W25.heap.size W25 W256 := by rw [hWn]; exact (Below.refl _ _).alloc (Nat.le_refl _) _
          have B3 := Lib.hid (B2.out.trans (hbb.mono B2.out.size))
          have NA3 := Lib.hid (NA2.out.later hbb)
          have NB3 := Lib.hid (NB2.out.later hbb)
          have TN3 := Lib.hid (show RwF W256 W25.heap.size #[.int .i64 3, .string ⟨#[]⟩, .string ⟨#[]⟩, .slice none 0 0, .slice (some ⟨ha, 0, none⟩) 1 1, .int .i64 3, .string ⟨#[]⟩, .string ⟨#[]⟩, .slice none 0 0, .slice (some ⟨hb0, 0, none⟩) 1 1] by rw [hWn]; exact RwF.new ..)
          obtain ⟨tt, htt⟩ : ∃ z, z = W25.heap.size := ⟨_, rfl⟩
          rw [← htt] at TN3 ⊢
          have HTT := Lib.hid htt
          clear hbb hWn htt
          refine hK.out _ _ (HS.out _ B3.out) (fun hHeld1 => ?_)
          clear hK K hHeld
          have hHeld := hHeld1; clear hHeld1
          try simp only [List.getElem_toArray, List.getElem_cons_succ, List.getElem_cons_zero, Act.put, List.setIfInBounds_toArray, List.set_cons_zero, List.set_cons_succ]
          refine wpAnyH_take (i := 7) (v := ?vY1) rfl (by kernel_rfl) (by kernel_rfl) (by kernel_rfl) (fun _ _ _ h => h) (Or.inl ⟨by rfl, ?yY1⟩) hHeld ?rY1
          case yY1 => (intro W hSw; simp only [List.getElem_toArray, List.getElem_cons_succ, List.getElem_cons_zero]; go_simp; try (with_reducible rfl))
          simp only [List.getElem_toArray, List.getElem_cons_succ, List.getElem_cons_zero, Act.put, List.setIfInBounds_toArray, List.set_cons_zero, List.set_cons_succ]
          refine wpAnyH_ready (rs := [8]) (by kernel_rfl) (by simp) (AllReadyH.cons rfl (fun K hK => ?_) AllReadyH.nil)
          simp only [List.getElem_toArray, List.getElem_cons_succ, List.getElem_cons_zero]
          go_simp
          obtain ⟨W2568, hWn⟩ : ∃ v, v = W256.alloc (.cells #[.int .i64 0, .string ⟨#[]⟩, .string ⟨#[]⟩, .slice none 0 0, .slice none 0 0] 25) := ⟨_, rfl⟩
          rw [← hWn]
          have hbb : Below W256.heap.size W256 W2568 := by rw [hWn]; exact (Below.refl _ _).alloc (Nat.le_refl _) _
          have B4 := Lib.hid (B3.out.trans (hbb.mono B3.out.size))
          have NA4 := Lib.hid (NA3.out.later hbb)
          have NB4 := Lib.hid (NB3.out.later hbb)
          have TN4 := Lib.hid (TN3.out.later hbb)
          have ZR4 := Lib.hid (show RwF W2568 W256.heap.size #[.int .i64 0, .string ⟨#[]⟩, .string ⟨#[]⟩, .slice none 0 0, .slice none 0 0] by rw [hWn]; exact RwF.new ..)
          obtain ⟨z, hz⟩ : ∃ z, z = W256.heap.size := ⟨_, rfl⟩
          rw [← hz] at ZR4 ⊢
          have HZ := Lib.hid hz
          have HZL := Lib.hid (show wd.heap.size ≤ z by rw [hz]; exact B3.out.size)
          clear hbb hWn hz
          have NEA := Lib.hid (show ha ≠ z by have h1 := NA3.out.lt; have h2 := HZ.out; omega)
          have NEB := Lib.hid (show hb0 ≠ z by have h1 := NB3.out.lt; have h2 := HZ.out; omega)
          have NET := Lib.hid (show tt ≠ z by have h1 := TN3.out.lt; have h2 := HZ.out; omega)
          refine hK.out _ _ (HS.out _ B4.out) (fun hHeld1 => ?_)
          clear hK K hHeld
          have hHeld := hHeld1; clear hHeld1
          try simp only [List.getElem_toArray, List.getElem_cons_succ, List.getElem_cons_zero, Act.put, List.setIfInBounds_toArray, List.set_cons_zero, List.set_cons_succ]
          refine wpAnyH_ready (rs := [9]) (by kernel_rfl) (by simp) (AllReadyH.cons rfl (fun K hK => ?_) AllReadyH.nil)
          simp only [List.getElem_toArray, List.getElem_cons_succ, List.getElem_cons_zero]
          have j0 := ZR4.out.cell 0
          have j1 := ZR4.out.cell 1
          have j2 := ZR4.out.cell 2
          have j3 := ZR4.out.cell 3
          have j4 := ZR4.out.cell 4
          have f0 := ZR4.out.frozen 0
          have f1 := ZR4.out.frozen 1
          have f2 := ZR4.out.frozen 2
          have f3 := ZR4.out.frozen 3
          have f4 := ZR4.out.frozen 4
          simp only [List.getElem?_toArray, List.getElem?_cons_zero, List.getElem?_cons_succ] at j0 j1 j2 j3 j4
          go_simp
          have hbz : Below wd.heap.size wd (set5 W2568 z (.int .i64 2) (.string ⟨#[]⟩) (.string ⟨#[]⟩) (.slice none 0 0) (.slice (some ⟨tt, 0, none⟩) 2 2)) := set5_below B4.out HZL.out _ _ _ _ _
          have hza : RwF (set5 W2568 z (.int .i64 2) (.string ⟨#[]⟩) (.string ⟨#[]⟩) (.slice none 0 0) (.slice (some ⟨tt, 0, none⟩) 2 2)) ha (fltC f a c b d).toArray := NA4.out.same (set5_heap _ _ _ _ _ _ _ _ NEA.out)
          have hzb : RwF (set5 W2568 z (.int .i64 2) (.string ⟨#[]⟩) (.string ⟨#[]⟩) (.slice none 0 0) (.slice (some ⟨tt, 0, none⟩) 2 2)) hb0 (fltC g a' c' b' d').toArray := NB4.out.same (set5_heap _ _ _ _ _ _ _ _ NEB.out)
          have hzt := TN4.out.same (set5_heap W2568 z tt (.int .i64 2) (.string ⟨#[]⟩) (.string ⟨#[]⟩) (.slice none 0 0) (.slice (some ⟨tt, 0, none⟩) 2 2) NET.out)
          have hzz := set5_row ZR4.out (.int .i64 2) (.string ⟨#[]⟩) (.string ⟨#[]⟩) (.slice none 0 0) (.slice (some ⟨tt, 0, none⟩) 2 2)
          have HEND := Lib.hid (show OrR f g w13 (set5 W2568 z (.int .i64 2) (.string ⟨#[]⟩) (.string ⟨#[]⟩) (.slice none 0 0) (.slice (some ⟨tt, 0, none⟩) 2 2)) (.pointer (some ⟨z, 0, none⟩)) from ⟨z, tt, rfl, hzz, TWOO.out _ tt ha hb0 hzt (ONEF.out _ (C13d.out.trans (hbz.mono C13d.out.size)) ha hza) (ONEG.out _ (C13d.out.trans (hbz.mono C13d.out.size)) hb0 hzb), HD13.out.trans (hbz.mono HD13.out.size)⟩)
          have HSE := HS.out _ hbz
          clear hbz hza hzb hzt hzz
          unfold set5 at HEND HSE
          refine hK.out _ _ (HSE) (fun hHeld1 => ?_)
          clear hK K hHeld
          have hHeld := hHeld1; clear hHeld1
          try simp only [List.getElem_toArray, List.getElem_cons_succ, List.getElem_cons_zero, Act.put, List.setIfInBounds_toArray, List.set_cons_zero, List.set_cons_succ]
          refine wpAnyH_done (by kernel_rfl) ?_ _
          go_wp2_with fail
          go_meet
          exact HEND.out
        · simp only [List.getElem_toArray, List.getElem_cons_succ, List.getElem_cons_zero]
          go_simp
          obtain ⟨W258, hWn⟩ : ∃ v, v = W25.alloc (.cells #[.int .i64 0, .string ⟨#[]⟩, .string ⟨#[]⟩, .slice none 0 0, .slice none 0 0] 25) := ⟨_, rfl⟩
          rw [← hWn]
          have hbb : Below W25.heap.size W25 W258 := by rw [hWn]; exact (Below.refl _ _).alloc (Nat.le_refl _) _
          have B3 := Lib.hid (B2.out.trans (hbb.mono B2.out.size))
          have NA3 := Lib.hid (NA2.out.later hbb)
          have NB3 := Lib.hid (NB2.out.later hbb)
          have ZR3 := Lib.hid (show RwF W258 W25.heap.size #[.int .i64 0, .string ⟨#[]⟩, .string ⟨#[]⟩, .slice none 0 0, .slice none 0 0] by rw [hWn]; exact RwF.new ..)
          obtain ⟨z, hz⟩ : ∃ z, z = W25.heap.size := ⟨_, rfl⟩
          rw [← hz] at ZR3 ⊢
          have HZ := Lib.hid hz
          have HZL := Lib.hid (show wd.heap.size ≤ z by rw [hz]; exact B2.out.size)
          clear hbb hWn hz
          have NEA := Lib.hid (show ha ≠ z by have h1 := NA2.out.lt; have h2 := HZ.out; omega)
          have NEB := Lib.hid (show hb0 ≠ z by have h1 := NB2.out.lt; have h2 := HZ.out; omega)
          refine hK.out _ _ (HS.out _ B3.out) (fun hHeld1 => ?_)
          clear hK K hHeld
          have hHeld := hHeld1; clear hHeld1
          try simp only [List.getElem_toArray, List.getElem_cons_succ, List.getElem_cons_zero, Act.put, List.setIfInBounds_toArray, List.set_cons_zero, List.set_cons_succ]
          refine wpAnyH_ready (rs := [6]) (by kernel_rfl) (by simp) (AllReadyH.cons rfl (fun K hK => ?_) AllReadyH.nil)
          simp only [List.getElem_toArray, List.getElem_cons_succ, List.getElem_cons_zero]
          go_simp
          obtain ⟨W2586, hWn⟩ : ∃ v, v = W258.alloc (.cells #[.int .i64 3, .string ⟨#[]⟩, .string ⟨#[]⟩, .slice none 0 0, .slice (some ⟨ha, 0, none⟩) 1 1, .int .i64 3, .string ⟨#[]⟩, .string ⟨#[]⟩, .slice none 0 0, .slice (some ⟨hb0, 0, none⟩) 1 1] 25) := ⟨_, rfl⟩
          rw [← hWn]
          have hbb : Below W258.heap.size W258 W2586 := by rw [hWn]; exact (Below.refl _ _).alloc (Nat.le_refl _) _
          have B4 := Lib.hid (B3.out.trans (hbb.mono B3.out.size))
          have ZR4 := Lib.hid (ZR3.out.later hbb)
          have NA4 := Lib.hid (NA3.out.later hbb)
          have NB4 := Lib.hid (NB3.out.later hbb)
          have TN4 := Lib.hid (show RwF W2586 W258.heap.size #[.int .i64 3, .string ⟨#[]⟩, .string ⟨#[]⟩, .slice none 0 0, .slice (some ⟨ha, 0, none⟩) 1 1, .int .i64 3, .string ⟨#[]⟩, .string ⟨#[]⟩, .slice none 0 0, .slice (some ⟨hb0, 0, none⟩) 1 1] by rw [hWn]; exact RwF.new ..)
          obtain ⟨tt, htt⟩ : ∃ z, z = W258.heap.size := ⟨_, rfl⟩
          rw [← htt] at TN4 ⊢
          have HTT := Lib.hid htt
          clear hbb hWn htt
          have NET := Lib.hid (show tt ≠ z by have h1 := ZR3.out.lt; have h2 := HTT.out; omega)
          refine hK.out _ _ (HS.out _ B4.out) (fun hHeld1 => ?_)
          clear hK K hHeld
          have hHeld := hHeld1; clear hHeld1
          try simp only [List.getElem_toArray, List.getElem_cons_succ, List.getElem_cons_zero, Act.put, List.setIfInBounds_toArray, List.set_cons_zero, List.set_cons_succ]
          refine wpAnyH_take (i := 7) (v := ?vY3) rfl (by kernel_rfl) (by kernel_rfl) (by kernel_rfl) (fun _ _ _ h => h) (Or.inl ⟨by rfl, ?yY3⟩) hHeld ?rY3
          case yY3 => (intro W hSw; simp only [List.getElem_toArray, List.getElem_cons_succ, List.getElem_cons_zero]; go_simp; try (with_reducible rfl))
          simp only [List.getElem_toArray, List.getElem_cons_succ, List.getElem_cons_zero, Act.put, List.setIfInBounds_toArray, List.set_cons_zero, List.set_cons_succ]
          refine wpAnyH_ready (rs := [9]) (by kernel_rfl) (by simp) (AllReadyH.cons rfl (fun K hK => ?_) AllReadyH.nil)
          simp only [List.getElem_toArray, List.getElem_cons_succ, List.getElem_cons_zero]
          have j0 := ZR4.out.cell 0
          have j1 := ZR4.out.cell 1
          have j2 := ZR4.out.cell 2
          have j3 := ZR4.out.cell 3
          have j4 := ZR4.out.cell 4
          have f0 := ZR4.out.frozen 0
          have f1 := ZR4.out.frozen 1
          have f2 := ZR4.out.frozen 2
          have f3 := ZR4.out.frozen 3
          have f4 := ZR4.out.frozen 4
          simp only [List.getElem?_toArray, List.getElem?_cons_zero, List.getElem?_cons_succ] at j0 j1 j2 j3 j4
          go_simp
          have hbz : Below wd.heap.size wd (set5 W2586 z (.int .i64 2) (.string ⟨#[]⟩) (.string ⟨#[]⟩) (.slice none 0 0) (.slice (some ⟨tt, 0, none⟩) 2 2)) := set5_below B4.out HZL.out _ _ _ _ _
          have hza : RwF (set5 W2586 z (.int .i64 2) (.string ⟨#[]⟩) (.string ⟨#[]⟩) (.slice none 0 0) (.slice (some ⟨tt, 0, none⟩) 2 2)) ha (fltC f a c b d).toArray := NA4.out.same (set5_heap _ _ _ _ _ _ _ _ NEA.out)
          have hzb : RwF (set5 W2586 z (.int .i64 2) (.string ⟨#[]⟩) (.string ⟨#[]⟩) (.slice none 0 0) (.slice (some ⟨tt, 0, none⟩) 2 2)) hb0 (fltC g a' c' b' d').toArray := NB4.out.same (set5_heap _ _ _ _ _ _ _ _ NEB.out)
          have hzt := TN4.out.same (set5_heap W2586 z tt (.int .i64 2) (.string ⟨#[]⟩) (.string ⟨#[]⟩) (.slice none 0 0) (.slice (some ⟨tt, 0, none⟩) 2 2) NET.out)
          have hzz := set5_row ZR4.out (.int .i64 2) (.string ⟨#[]⟩) (.string ⟨#[]⟩) (.slice none 0 0) (.slice (some ⟨tt, 0, none⟩) 2 2)
          have HEND := Lib.hid (show OrR f g w13 (set5 W2586 z (.int .i64 2) (.string ⟨#[]⟩) (.string ⟨#[]⟩) (.slice none 0 0) (.slice (some ⟨tt, 0, none⟩) 2 2)) (.pointer (some ⟨z, 0, none⟩)) from ⟨z, tt, rfl, hzz, TWOO.out _ tt ha hb0 hzt (ONEF.out _ (C13d.out.trans (hbz.mono C13d.out.size)) ha hza) (ONEG.out _ (C13d.out.trans (hbz.mono C13d.out.size)) hb0 hzb), HD13.out.trans (hbz.mono HD13.out.size)⟩)
          have HSE := HS.out _ hbz
          clear hbz hza hzb hzt hzz
          unfold set5 at HEND HSE
          refine hK.out _ _ (HSE) (fun hHeld1 => ?_)
          clear hK K hHeld
          have hHeld := hHeld1; clear hHeld1
          try simp only [List.getElem_toArray, List.getElem_cons_succ, List.getElem_cons_zero, Act.put, List.setIfInBounds_toArray, List.set_cons_zero, List.set_cons_succ]
          refine wpAnyH_done (by kernel_rfl) ?_ _
          go_wp2_with fail
          go_meet
          exact HEND.out
      · simp only [List.getElem_toArray, List.getElem_cons_succ, List.getElem_cons_zero]
        go_simp
        obtain ⟨W28, hWn⟩ : ∃ v, v = W2.alloc (.cells #[.int .i64 0, .string ⟨#[]⟩, .string ⟨#[]⟩, .slice none 0 0, .slice none 0 0] 25) := ⟨_, rfl⟩
        rw [← hWn]
        have hbb : Below W2.heap.size W2 W28 := by rw [hWn]; exact (Below.refl _ _).alloc (Nat.le_refl _) _
        have B2 := Lib.hid (B1.out.trans (hbb.mono B1.out.size))
        have NA2 := Lib.hid (NA1.out.later hbb)
        have ZR2 := Lib.hid (show RwF W28 W2.heap.size #[.int .i64 0, .string ⟨#[]⟩, .string ⟨#[]⟩, .slice none 0 0, .slice none 0 0] by rw [hWn]; exact RwF.new ..)
        obtain ⟨z, hz⟩ : ∃ z, z = W2.heap.size := ⟨_, rfl⟩
        rw [← hz] at ZR2 ⊢
        have HZ := Lib.hid hz
        have HZL := Lib.hid (show wd.heap.size ≤ z by rw [hz]; exact B1.out.size)
        clear hbb hWn hz
        have NEA := Lib.hid (show ha ≠ z by have h1 := NA1.out.lt; have h2 := HZ.out; omega)
        refine hK.out _ _ (HS.out _ B2.out) (fun hHeld1 => ?_)
        clear hK K hHeld
        have hHeld := hHeld1; clear hHeld1
        try simp only [List.getElem_toArray, List.getElem_cons_succ, List.getElem_cons_zero, Act.put, List.setIfInBounds_toArray, List.set_cons_zero, List.set_cons_succ]
        refine wpAnyH_ready (rs := [5]) (by kernel_rfl) (by simp) (AllReadyH.cons rfl (fun K hK => ?_) AllReadyH.nil)
        simp only [List.getElem_toArray, List.getElem_cons_succ, List.getElem_cons_zero]
        go_simp
        go_at_call 10; refine Calls.mono (CRg.out _) ?_; rintro e W285 ⟨⟨hb0, rfl, hle, hrw⟩, hbb⟩
        try go_wp2_with fail
        have B3 := Lib.hid (B2.out.trans (hbb.mono B2.out.size))
        have ZR3 := Lib.hid (ZR2.out.later hbb)
        have NA3 := Lib.hid (NA2.out.later hbb)
        have NB3 := Lib.hid hrw
        have LNB := Lib.hid (show W28.heap.size ≤ hb0 from hle)
        clear hbb hrw hle
        have NEB := Lib.hid (show hb0 ≠ z by have h1 := ZR2.out.lt; have h2 := LNB.out; omega)
        refine hK.out _ _ (HS.out _ B3.out) (fun hHeld1 => ?_)
        clear hK K hHeld
        have hHeld := hHeld1; clear hHeld1
        try simp only [List.getElem_toArray, List.getElem_cons_succ, List.getElem_cons_zero, Act.put, List.setIfInBounds_toArray, List.set_cons_zero, List.set_cons_succ]
        refine wpAnyH_ready (rs := [6]) (by kernel_rfl) (by simp) (AllReadyH.cons rfl (fun K hK => ?_) AllReadyH.nil)
        simp only [List.getElem_toArray, List.getElem_cons_succ, List.getElem_cons_zero]
        go_simp
        obtain ⟨W2586, hWn⟩ : ∃ v, v = W285.alloc (.cells #[.int .i64 3, .string ⟨#[]⟩, .string ⟨#[]⟩, .slice none 0 0, .slice (some ⟨ha, 0, none⟩) 1 1, .int .i64 3, .string ⟨#[]⟩, .string ⟨#[]⟩, .slice none 0 0, .slice (some ⟨hb0, 0, none⟩) 1 1] 25) := ⟨_, rfl⟩
        rw [← hWn]
        have hbb : Below W285.heap.size W285 W2586 := by rw [hWn]; exact (Below.refl _ _).alloc (Nat.le_refl _) _
        have B4 := Lib.hid (B3.out.trans (hbb.mono B3.out.size))
        have ZR4 := Lib.hid (ZR3.out.later hbb)
        have NA4 := Lib.hid (NA3.out.later hbb)
        have NB4 := Lib.hid (NB3.out.later hbb)
        have TN4 := Lib.hid (show RwF W2586 W285.heap.size #[.int .i64 3, .string ⟨#[]⟩, .string ⟨#[]⟩, .slice none 0 0, .slice (some ⟨ha, 0, none⟩) 1 1, .int .i64 3, .string ⟨#[]⟩, .string ⟨#[]⟩, .slice none 0 0, .slice (some ⟨hb0, 0, none⟩) 1 1] by rw [hWn]; exact RwF.new ..)
        obtain ⟨tt, htt⟩ : ∃ z, z = W285.heap.size := ⟨_, rfl⟩
        rw [← htt] at TN4 ⊢
        have HTT := Lib.hid htt
        clear hbb hWn htt
        have NET := Lib.hid (show tt ≠ z by have h1 := ZR3.out.lt; have h2 := HTT.out; omega)
        refine hK.out _ _ (HS.out _ B4.out) (fun hHeld1 => ?_)
        clear hK K hHeld
        have hHeld := hHeld1; clear hHeld1
        try simp only [List.getElem_toArray, List.getElem_cons_succ, List.getElem_cons_zero, Act.put, List.setIfInBounds_toArray, List.set_cons_zero, List.set_cons_succ]
        refine wpAnyH_take (i := 7) (v := ?vY5) rfl (by kernel_rfl) (by kernel_rfl) (by kernel_rfl) (fun _ _ _ h => h) (Or.inl ⟨by rfl, ?yY5⟩) hHeld ?rY5
        case yY5 => (intro W hSw; simp only [List.getElem_toArray, List.getElem_cons_succ, List.getElem_cons_zero]; go_simp; try (with_reducible rfl))
        simp only [List.getElem_toArray, List.getElem_cons_succ, List.getElem_cons_zero, Act.put, List.setIfInBounds_toArray, List.set_cons_zero, List.set_cons_succ]
        refine wpAnyH_ready (rs := [9]) (by kernel_rfl) (by simp) (AllReadyH.cons rfl (fun K hK => ?_) AllReadyH.nil)
        simp only [List.getElem_toArray, List.getElem_cons_succ, List.getElem_cons_zero]
        have j0 := ZR4.out.cell 0
        have j1 := ZR4.out.cell 1
        have j2 := ZR4.out.cell 2
        have j3 := ZR4.out.cell 3
        have j4 := ZR4.out.cell 4
        have f0 := ZR4.out.frozen 0
        have f1 := ZR4.out.frozen 1
        have f2 := ZR4.out.frozen 2
        have f3 := ZR4.out.frozen 3
        have f4 := ZR4.out.frozen 4
        simp only [List.getElem?_toArray, List.getElem?_cons_zero, List.getElem?_cons_succ] at j0 j1 j2 j3 j4
        go_simp
        have hbz : Below wd.heap.size wd (set5 W2586 z (.int .i64 2) (.string ⟨#[]⟩) (.string ⟨#[]⟩) (.slice none 0 0) (.slice (some ⟨tt, 0, none⟩) 2 2)) := set5_below B4.out HZL.out _ _ _ _ _
        have hza : RwF (set5 W2586 z (.int .i64 2) (.string ⟨#[]⟩) (.string ⟨#[]⟩) (.slice none 0 0) (.slice (some ⟨tt, 0, none⟩) 2 2)) ha (fltC f a c b d).toArray := NA4.out.same (set5_heap _ _ _ _ _ _ _ _ NEA.out)
        have hzb : RwF (set5 W2586 z (.int .i64 2) (.string ⟨#[]⟩) (.string ⟨#[]⟩) (.slice none 0 0) (.slice (some ⟨tt, 0, none⟩) 2 2)) hb0 (fltC g a' c' b' d').toArray := NB4.out.same (set5_heap _ _ _ _ _ _ _ _ NEB.out)
        have hzt := TN4.out.same (set5_heap W2586 z tt (.int .i64 2) (.string ⟨#[]⟩) (.string ⟨#[]⟩) (.slice none 0 0) (.slice (some ⟨tt, 0, none⟩) 2 2) NET.out)
        have hzz := set5_row ZR4.out (.int .i64 2) (.string ⟨#[]⟩) (.string ⟨#[]⟩) (.slice none 0 0) (.slice (some ⟨tt, 0, none⟩) 2 2)
        have HEND := Lib.hid (show OrR f g w13 (set5 W2586 z (.int .i64 2) (.string ⟨#[]⟩) (.string ⟨#[]⟩) (.slice none 0 0) (.slice (some ⟨tt, 0, none⟩) 2 2)) (.pointer (some ⟨z, 0, none⟩)) from ⟨z, tt, rfl, hzz, TWOO.out _ tt ha hb0 hzt (ONEF.out _ (C13d.out.trans (hbz.mono C13d.out.size)) ha hza) (ONEG.out _ (C13d.out.trans (hbz.mono C13d.out.size)) hb0 hzb), HD13.out.trans (hbz.mono HD13.out.size)⟩)
        have HSE := HS.out _ hbz
        clear hbz hza hzb hzt hzz
        unfold set5 at HEND HSE
        refine hK.out _ _ (HSE) (fun hHeld1 => ?_)
        clear hK K hHeld
        have hHeld := hHeld1; clear hHeld1
        try simp only [List.getElem_toArray, List.getElem_cons_succ, List.getElem_cons_zero, Act.put, List.setIfInBounds_toArray, List.set_cons_zero, List.set_cons_succ]
        refine wpAnyH_done (by kernel_rfl) ?_ _
        go_wp2_with fail
        go_meet
        exact HEND.out
    · simp only [List.getElem_toArray, List.getElem_cons_succ, List.getElem_cons_zero]
      go_simp
      obtain ⟨W8, hWn⟩ : ∃ v, v = wd.alloc (.cells #[.int .i64 0, .string ⟨#[]⟩, .string ⟨#[]⟩, .slice none 0 0, .slice none 0 0] 25) := ⟨_, rfl⟩
      rw [← hWn]
      have hbb : Below wd.heap.size wd W8 := by rw [hWn]; exact (Below.refl _ _).alloc (Nat.le_refl _) _
      have B1 := Lib.hid (B0.out.trans (hbb.mono B0.out.size))
      have ZR1 := Lib.hid (show RwF W8 wd.heap.size #[.int .i64 0, .string ⟨#[]⟩, .string ⟨#[]⟩, .slice none 0 0, .slice none 0 0] by rw [hWn]; exact RwF.new ..)
      obtain ⟨z, hz⟩ : ∃ z, z = wd.heap.size := ⟨_, rfl⟩
      rw [← hz] at ZR1 ⊢
      have HZ := Lib.hid hz
      have HZL := Lib.hid (show wd.heap.size ≤ z by rw [hz]; exact B0.out.size)
      clear hbb hWn hz
      refine hK.out _ _ (HS.out _ B1.out) (fun hHeld1 => ?_)
      clear hK K hHeld
      have hHeld := hHeld1; clear hHeld1
      try simp only [List.getElem_toArray, List.getElem_cons_succ, List.getElem_cons_zero, Act.put, List.setIfInBounds_toArray, List.set_cons_zero, List.set_cons_succ]
      refine wpAnyH_ready (rs := [2]) (by kernel_rfl) (by simp) (AllReadyH.cons rfl (fun K hK => ?_) AllReadyH.nil)
      simp only [List.getElem_toArray, List.getElem_cons_succ, List.getElem_cons_zero]
      go_simp
      go_at_call 10; refine Calls.mono (CRf.out _) ?_; rintro e W82 ⟨⟨ha, rfl, hle, hrw⟩, hbb⟩
      try go_wp2_with fail
      have B2 := Lib.hid (B1.out.trans (hbb.mono B1.out.size))
      have ZR2 := Lib.hid (ZR1.out.later hbb)
      have NA2 := Lib.hid hrw
      have LNA := Lib.hid (show W8.heap.size ≤ ha from hle)
      clear hbb hrw hle
      have NEA := Lib.hid (show ha ≠ z by have h1 := ZR1.out.lt; have h2 := LNA.out; omega)
      refine hK.out _ _ (HS.out _ B2.out) (fun hHeld1 => ?_)
      clear hK K hHeld
      have hHeld := hHeld1; clear hHeld1
      try simp only [List.getElem_toArray, List.getElem_cons_succ, List.getElem_cons_zero, Act.put, List.setIfInBounds_toArray, List.set_cons_zero, List.set_cons_succ]
      refine wpAnyH_ready (rs := [5]) (by kernel_rfl) (by simp) (AllReadyH.cons rfl (fun K hK => ?_) AllReadyH.nil)
      simp only [List.getElem_toArray, List.getElem_cons_succ, List.getElem_cons_zero]
      go_simp
      go_at_call 10; refine Calls.mono (CRg.out _) ?_; rintro e W285 ⟨⟨hb0, rfl, hle, hrw⟩, hbb⟩
      try go_wp2_with fail
      have B3 := Lib.hid (B2.out.trans (hbb.mono B2.out.size))
      have ZR3 := Lib.hid (ZR2.out.later hbb)
      have NA3 := Lib.hid (NA2.out.later hbb)
      have NB3 := Lib.hid hrw
      have LNB := Lib.hid (show W82.heap.size ≤ hb0 from hle)
      clear hbb hrw hle
      have NEB := Lib.hid (show hb0 ≠ z by have h1 := ZR2.out.lt; have h2 := LNB.out; omega)
      refine hK.out _ _ (HS.out _ B3.out) (fun hHeld1 => ?_)
      clear hK K hHeld
      have hHeld := hHeld1; clear hHeld1
      try simp only [List.getElem_toArray, List.getElem_cons_succ, List.getElem_cons_zero, Act.put, List.setIfInBounds_toArray, List.set_cons_zero, List.set_cons_succ]
      refine wpAnyH_ready (rs := [6]) (by kernel_rfl) (by simp) (AllReadyH.cons rfl (fun K hK => ?_) AllReadyH.nil)
      simp only [List.getElem_toArray, List.getElem_cons_succ, List.getElem_cons_zero]
      go_simp
      obtain ⟨W2586, hWn⟩ : ∃ v, v = W285.alloc (.cells #[.int .i64 3, .string ⟨#[]⟩, .string ⟨#[]⟩, .slice none 0 0, .slice (some ⟨ha, 0, none⟩) 1 1, .int .i64 3, .string ⟨#[]⟩, .string ⟨#[]⟩, .slice none 0 0, .slice (some ⟨hb0, 0, none⟩) 1 1] 25) := ⟨_, rfl⟩
      rw [← hWn]
      have hbb : Below W285.heap.size W285 W2586 := by rw [hWn]; exact (Below.refl _ _).alloc (Nat.le_refl _) _
      have B4 := Lib.hid (B3.out.trans (hbb.mono B3.out.size))
      have ZR4 := Lib.hid (ZR3.out.later hbb)
      have NA4 := Lib.hid (NA3.out.later hbb)
      have NB4 := Lib.hid (NB3.out.later hbb)
      have TN4 := Lib.hid (show RwF W2586 W285.heap.size #[.int .i64 3, .string ⟨#[]⟩, .string ⟨#[]⟩, .slice none 0 0, .slice (some ⟨ha, 0, none⟩) 1 1, .int .i64 3, .string ⟨#[]⟩, .string ⟨#[]⟩, .slice none 0 0, .slice (some ⟨hb0, 0, none⟩) 1 1] by rw [hWn]; exact RwF.new ..)
      obtain ⟨tt, htt⟩ : ∃ z, z = W285.heap.size := ⟨_, rfl⟩
      rw [← htt] at TN4 ⊢
      have HTT := Lib.hid htt
      clear hbb hWn htt
      have NET := Lib.hid (show tt ≠ z by have h1 := ZR3.out.lt; have h2 := HTT.out; omega)
      refine hK.out _ _ (HS.out _ B4.out) (fun hHeld1 => ?_)
      clear hK K hHeld
      have hHeld := hHeld1; clear hHeld1
      try simp only [List.getElem_toArray, List.getElem_cons_succ, List.getElem_cons_zero, Act.put, List.setIfInBounds_toArray, List.set_cons_zero, List.set_cons_succ]
      refine wpAnyH_take (i := 7) (v := ?vY7) rfl (by kernel_rfl) (by kernel_rfl) (by kernel_rfl) (fun _ _ _ h => h) (Or.inl ⟨by rfl, ?yY7⟩) hHeld ?rY7
      case yY7 => (intro W hSw; simp only [List.getElem_toArray, List.getElem_cons_succ, List.getElem_cons_zero]; go_simp; try (with_reducible rfl))
      simp only [List.getElem_toArray, List.getElem_cons_succ, List.getElem_cons_zero, Act.put, List.setIfInBounds_toArray, List.set_cons_zero, List.set_cons_succ]
      refine wpAnyH_ready (rs := [9]) (by kernel_rfl) (by simp) (AllReadyH.cons rfl (fun K hK => ?_) AllReadyH.nil)
      simp only [List.getElem_toArray, List.getElem_cons_succ, List.getElem_cons_zero]
      have j0 := ZR4.out.cell 0
      have j1 := ZR4.out.cell 1
      have j2 := ZR4.out.cell 2
      have j3 := ZR4.out.cell 3
      have j4 := ZR4.out.cell 4
      have f0 := ZR4.out.frozen 0
      have f1 := ZR4.out.frozen 1
      have f2 := ZR4.out.frozen 2
      have f3 := ZR4.out.frozen 3
      have f4 := ZR4.out.frozen 4
      simp only [List.getElem?_toArray, List.getElem?_cons_zero, List.getElem?_cons_succ] at j0 j1 j2 j3 j4
      go_simp
      have hbz : Below wd.heap.size wd (set5 W2586 z (.int .i64 2) (.string ⟨#[]⟩) (.string ⟨#[]⟩) (.slice none 0 0) (.slice (some ⟨tt, 0, none⟩) 2 2)) := set5_below B4.out HZL.out _ _ _ _ _
      have hza : RwF (set5 W2586 z (.int .i64 2) (.string ⟨#[]⟩) (.string ⟨#[]⟩) (.slice none 0 0) (.slice (some ⟨tt, 0, none⟩) 2 2)) ha (fltC f a c b d).toArray := NA4.out.same (set5_heap _ _ _ _ _ _ _ _ NEA.out)
      have hzb : RwF (set5 W2586 z (.int .i64 2) (.string ⟨#[]⟩) (.string ⟨#[]⟩) (.slice none 0 0) (.slice (some ⟨tt, 0, none⟩) 2 2)) hb0 (fltC g a' c' b' d').toArray := NB4.out.same (set5_heap _ _ _ _ _ _ _ _ NEB.out)
      have hzt := TN4.out.same (set5_heap W2586 z tt (.int .i64 2) (.string ⟨#[]⟩) (.string ⟨#[]⟩) (.slice none 0 0) (.slice (some ⟨tt, 0, none⟩) 2 2) NET.out)
      have hzz := set5_row ZR4.out (.int .i64 2) (.string ⟨#[]⟩) (.string ⟨#[]⟩) (.slice none 0 0) (.slice (some ⟨tt, 0, none⟩) 2 2)
      have HEND := Lib.hid (show OrR f g w13 (set5 W2586 z (.int .i64 2) (.string ⟨#[]⟩) (.string ⟨#[]⟩) (.slice none 0 0) (.slice (some ⟨tt, 0, none⟩) 2 2)) (.pointer (some ⟨z, 0, none⟩)) from ⟨z, tt, rfl, hzz, TWOO.out _ tt ha hb0 hzt (ONEF.out _ (C13d.out.trans (hbz.mono C13d.out.size)) ha hza) (ONEG.out _ (C13d.out.trans (hbz.mono C13d.out.size)) hb0 hzb), HD13.out.trans (hbz.mono HD13.out.size)⟩)
      have HSE := HS.out _ hbz
      clear hbz hza hzb hzt hzz
      unfold set5 at HEND HSE
      refine hK.out _ _ (HSE) (fun hHeld1 => ?_)
      clear hK K hHeld
      have hHeld := hHeld1; clear hHeld1
      try simp only [List.getElem_toArray, List.getElem_cons_succ, List.getElem_cons_zero, Act.put, List.setIfInBounds_toArray, List.set_cons_zero, List.set_cons_succ]
      refine wpAnyH_done (by kernel_rfl) ?_ _
      go_wp2_with fail
      go_meet
      exact HEND.out
  case rest =>
    obtain ⟨ob, oh, rfl, hor, hfo, hbo⟩ := hcut
    have C14 := Lib.hid (C13.out.trans (hbo.mono C13.out.size))
    have RB14 := Lib.hid (RB.out.later hbo)
    have FA14 := Lib.hid (fltFit FA13.out hbo hbo.size)
    have RO14 := Lib.hid hor
    have FO14 := Lib.hid hfo
    clear hor hfo hbo
    have jj0 := RB14.out.cell 0
    have jj1 := RB14.out.cell 1
    have jj2 := RB14.out.cell 2
    have jj3 := RB14.out.cell 3
    have jj4 := RB14.out.cell 4
    simp only [List.getElem?_toArray, List.getElem?_cons_zero, List.getElem?_cons_succ] at jj0 jj1 jj2 jj3 jj4
    have kk0 := RO14.out.cell 0
    have kk1 := RO14.out.cell 1
    have kk2 := RO14.out.cell 2
    have kk3 := RO14.out.cell 3
    have kk4 := RO14.out.cell 4
    simp only [List.getElem?_toArray, List.getElem?_cons_zero, List.getElem?_cons_succ] at kk0 kk1 kk2 kk3 kk4
    go_upto_region 15 with fail
    go_cut [105] from 21 (fun s105 wx => s105 = .bool false ∧ Below wc.heap.size wc wx)
    case first =>
      have HAN1 := Lib.hid (HAN.out s12 wc FA14.out (HA.out _ C14.out))
      have HOR1 := Lib.hid (fun W (hW : Below wc.heap.size wc W) => HOR.out oh W (fltFit FO14.out hW hW.size) (HA.out _ (C14.out.trans (hW.mono C14.out.size))))
      cases r <;> cases q
      all_goals
        go_wp2_with fail
        refine Calls.mono HAN1.out ?_
        rintro e v1 ⟨rfl, hb1⟩
        have V1 := Lib.hid hb1
        clear kk0 kk1 kk2 kk3 kk4 jj0 jj1 jj2 jj3 jj4
        have kk0 := (RO14.out.later hb1).cell 0
        have kk1 := (RO14.out.later hb1).cell 1
        have kk2 := (RO14.out.later hb1).cell 2
        have kk3 := (RO14.out.later hb1).cell 3
        have kk4 := (RO14.out.later hb1).cell 4
        simp only [List.getElem?_toArray, List.getElem?_cons_zero, List.getElem?_cons_succ] at kk0 kk1 kk2 kk3 kk4
        go_wp2_with fail
        refine Calls.mono (HOR1.out _ V1.out) ?_
        rintro e v2 ⟨rfl, hb2⟩
        have V2 := Lib.hid (V1.out.trans (hb2.mono V1.out.size))
        clear hb1 hb2
        go_wp2_with fail
        go_meet
        exact ⟨rfl, V2.out⟩
    case rest =>
      obtain ⟨rfl, hb15⟩ := hcut
      have C15 := Lib.hid (C14.out.trans (hb15.mono C14.out.size))
      clear hb15 jj0 jj1 jj2 jj3 jj4 kk0 kk1 kk2 kk3 kk4
      obtain ⟨⟨p0, p1, p2, p3, p4⟩, ⟨q0, q1, q2, q3, q4⟩, ⟨z0, z1, z2, z3, -, -⟩, -⟩ := KEEP.out _ C15.out
      go_wp2_with fail
      refine Calls.mono (CNA.out _ (HF.out _ C15.out)) ?_
      rintro e w16 ⟨⟨v, rfl, hrow, -⟩, hb⟩
      have C16 := Lib.hid (C15.out.trans (hb.mono C15.out.size))
      obtain ⟨xa, xc, rfl, hnm⟩ := row_nms hrow HLN.out.2 (by have := HLN.out.1; unfold maxLen; omega)
      have HNM := Lib.hid hnm
      obtain ⟨nl, hnl⟩ : ∃ x, x = L.length := ⟨_, rfl⟩
      have HNL := Lib.hid hnl
      have hnlb : nl ≤ 2000000 := by rw [hnl]; exact HLN.out.1
      rw [← hnl]
      clear hb hrow hnm hnl p0 p1 p2 p3 p4 q0 q1 q2 q3 q4 z0 z1 z2 z3
      go_wp2_with fail
      go_loopw [20] (fun vi wr => NlR L mn.data.toList w16 vi wr) (fun vi _ => nl - (intOf vi).toNat)
      case atStart => exact ⟨0, Nat.zero_le _, rfl, Lib.hid (fun j y hj => by omega), Below.refl _ _⟩
      case round =>
        obtain ⟨i, hi, rfl, hno, hB⟩ := hrel
        have HI := Lib.hid hi
        have HNO := Lib.hid hno.out
        have HBR := Lib.hid hB
        have C18 := Lib.hid (C16.out.trans (hB.mono C16.out.size))
        obtain ⟨⟨p0, p1, p2, p3, p4⟩, -, ⟨z0, z1, z2, z3, -, -⟩, -⟩ := KEEP.out _ C18.out
        clear hi hno hB
        by_cases hlt : i < nl
        · have hlz : (i : Int) < (nl : Int) := by omega
          have hil : i < L.length := by rw [← HNL.out]; exact hlt
          obtain ⟨g1, o1, hg1, hgl1, hc1⟩ := (HNM.out.later HBR.out).2.2 (by omega)
          have c0 := hc1 i hil
          obtain ⟨U, hU⟩ : ∃ V, V = L[i] := ⟨_, rfl⟩
          have HU := Lib.hid (show L[i]? = some U by rw [hU]; exact List.getElem?_eq_getElem hil)
          rw [← hU] at c0
          obtain ⟨x, e0, hx⟩ := bs_bytes U
          rw [e0] at c0
          subst hg1
          have HX := Lib.hid hx
          clear hc1 hU hx hgl1 e0
          by_cases he : x.data.toList = mn.data.toList
          · obtain rfl := eq_list he
            clear he
            go_wp2_with fail
            go_quiet (fail)
            go_wp2_with fail
            go_ret
            exact ⟨rfl, below_drewN (KEEP.out _ C18.out).2.2.2 _⟩
          · obtain ⟨y0, y1, y2⟩ := ne_list he
            have HE := Lib.hid he
            clear he
            go_wp2_with fail
            go_quiet (fail)
            go_wp2_with fail
            go_roundw
            case rel =>
              exact ⟨i + 1, by have := HNL.out; omega, by go_num, Lib.hid (fun j y hj hy => by
                rcases Nat.lt_or_ge j i with h | h
                · exact HNO.out j y h hy
                · obtain rfl : j = i := by omega
                  rw [HU.out] at hy
                  cases hy
                  intro e
                  exact HE.out (by rw [HX.out, e])), below_drewN HBR.out _⟩
            case measure => simp [intOf]; omega
        · have hlz : ¬ (i : Int) < (nl : Int) := by omega
          have HEQ := Lib.hid (show rm = r from HMO.out (by rw [← HMN.out]; exact HNE.out) (fun hm => by
            obtain ⟨j, hj, e⟩ := List.getElem_of_mem (HMEM.out hm)
            exact HNO.out j m.name (by have := HNL.out; omega) (by rw [List.getElem?_eq_getElem hj, e]) HMN.out.symm))
          rw [HEQ.out] at CM
          have HCM := Lib.hid (show attCs (m :: l) = [.string mn, .bool mt, .int .i64 mi, .string ms] ++ attCs l by rw [HME.out]; rfl)
          have HOKS := Lib.hid (show ∀ v ∈ m :: l, attOk v from fun v hv => by
            rcases List.mem_cons.1 hv with rfl | hv
            · exact HMK.out
            · exact (HA.out _ C18.out).2.1 v hv)
          obtain ⟨i0, hi, hz0, hz1, hz2⟩ := info_cut infoA
          obtain ⟨wd, hwd⟩ : ∃ v, v = wr.drew := ⟨_, rfl⟩
          have HD18 := Lib.hid (show Below wr.heap.size wr wd by rw [hwd]; exact (Below.refl _ _).drew)
          have C19 := Lib.hid (C18.out.trans (HD18.out.mono C18.out.size))
          clear C18
          have C18 := C19
          have HWD := Lib.hid hwd
          have HS := Lib.hid (show ∀ W, Below wd.heap.size wd W → (fun W => W.cell? ⟨w.heap.size, 0, none⟩ = some (.int .i64 k) ∧ W.cell? ⟨w.heap.size, 1, none⟩ = some (.string sn) ∧ W.cell? ⟨w.heap.size, 2, none⟩ = some (.string so) ∧ W.cell? ⟨w.heap.size, 3, none⟩ = some (.slice a nv c) ∧ W.cell? ⟨w.heap.size, 4, none⟩ = some (.slice b np d) ∧ W.cell? ⟨w.heap.size + 2, 0, none⟩ = some (.string mn) ∧ W.cell? ⟨w.heap.size + 2, 1, none⟩ = some (.bool mt) ∧ W.cell? ⟨w.heap.size + 2, 2, none⟩ = some (.int .i64 mi) ∧ W.cell? ⟨w.heap.size + 2, 3, none⟩ = some (.string ms)) W from fun W hW => by
            obtain ⟨⟨p0, p1, p2, p3, p4⟩, -, ⟨z0, z1, z2, z3, -, -⟩, -⟩ := KEEP.out _ (C18.out.trans (hW.mono C18.out.size))
            exact ⟨p0, p1, p2, p3, p4, z0, z1, z2, z3⟩)
          clear hwd p0 p1 p2 p3 p4 z0 z1 z2 z3
          by_cases hn0 : n = 0
          · have HL0 := Lib.hid (show l = [] from List.eq_nil_of_length_eq_zero (by rw [← HN.out]; exact hn0))
            subst hn0
            go_wp2_with fail
            refine wp_region_held_drew (S := (fun W => W.cell? ⟨w.heap.size, 0, none⟩ = some (.int .i64 k) ∧ W.cell? ⟨w.heap.size, 1, none⟩ = some (.string sn) ∧ W.cell? ⟨w.heap.size, 2, none⟩ = some (.string so) ∧ W.cell? ⟨w.heap.size, 3, none⟩ = some (.slice a nv c) ∧ W.cell? ⟨w.heap.size, 4, none⟩ = some (.slice b np d) ∧ W.cell? ⟨w.heap.size + 2, 0, none⟩ = some (.string mn) ∧ W.cell? ⟨w.heap.size + 2, 1, none⟩ = some (.bool mt) ∧ W.cell? ⟨w.heap.size + 2, 2, none⟩ = some (.int .i64 mi) ∧ W.cell? ⟨w.heap.size + 2, 3, none⟩ = some (.string ms))) (by kernel_rfl) (by rw [← HWD.out]; exact HS.out _ (Below.refl _ _)) (fun hHeld => ?_)
            rw [← HWD.out] at hHeld ⊢
            refine wpAnyH_take (i := 0) (v := ?vZ0) rfl (by kernel_rfl) (by kernel_rfl) (by kernel_rfl) (fun _ _ _ h => h) (Or.inl ⟨by rfl, ?yZ0⟩) hHeld ?rZ0
            case yZ0 => (intro W hSw; simp only [List.getElem_toArray, List.getElem_cons_zero]; go_simp; try (with_reducible rfl))
            simp only [List.getElem_toArray, List.getElem_cons_zero, Act.put, List.setIfInBounds_toArray, List.set_cons_zero, List.set_cons_succ]
            refine wpAnyH_take (i := 1) (v := ?vZ1) rfl (by kernel_rfl) (by kernel_rfl) (by kernel_rfl) (fun _ _ _ h => h) (Or.inl ⟨by rfl, ?yZ1⟩) hHeld ?rZ1
            case yZ1 => (intro W hSw; simp only [List.getElem_toArray, List.getElem_cons_succ, List.getElem_cons_zero]; go_simp; try (with_reducible rfl))
            simp only [List.getElem_toArray, List.getElem_cons_succ, List.getElem_cons_zero, Act.put, List.setIfInBounds_toArray, List.set_cons_zero, List.set_cons_succ]
            refine wpAnyH_take (i := 2) (v := ?vZ2) rfl (by kernel_rfl) (by kernel_rfl) (by kernel_rfl) (fun _ _ _ h => h) (Or.inl ⟨by rfl, ?yZ2⟩) hHeld ?rZ2
            case yZ2 => (intro W hSw; simp only [List.getElem_toArray, List.getElem_cons_succ, List.getElem_cons_zero]; go_simp; try (with_reducible rfl))
            simp only [List.getElem_toArray, List.getElem_cons_succ, List.getElem_cons_zero, Act.put, List.setIfInBounds_toArray, List.set_cons_zero, List.set_cons_succ]
            refine wpAnyH_take (i := 4) (v := ?vZ4) rfl (by kernel_rfl) (by kernel_rfl) (by kernel_rfl) (fun _ _ _ h => h) (Or.inl ⟨by rfl, ?yZ4⟩) hHeld ?rZ4
            case yZ4 => (intro W hSw; simp only [List.getElem_toArray, List.getElem_cons_succ, List.getElem_cons_zero]; go_simp; try (with_reducible rfl))
            simp only [List.getElem_toArray, List.getElem_cons_succ, List.getElem_cons_zero, Act.put, List.setIfInBounds_toArray, List.set_cons_zero, List.set_cons_succ]
            refine wpAnyH_take (i := 7) (v := ?vZ7) rfl (by kernel_rfl) (by kernel_rfl) (by kernel_rfl) (fun _ _ _ h => h) (Or.inl ⟨by rfl, ?yZ7⟩) hHeld ?rZ7
            case yZ7 => (intro W hSw; simp only [List.getElem_toArray, List.getElem_cons_succ, List.getElem_cons_zero]; go_simp; try (with_reducible rfl))
            simp only [List.getElem_toArray, List.getElem_cons_succ, List.getElem_cons_zero, Act.put, List.setIfInBounds_toArray, List.set_cons_zero, List.set_cons_succ]
            refine wpAnyH_take (i := 10) (v := ?vZ10) rfl (by kernel_rfl) (by kernel_rfl) (by kernel_rfl) (fun _ _ _ h => h) (Or.inl ⟨by rfl, ?yZ10⟩) hHeld ?rZ10
            case yZ10 => (intro W hSw; simp only [List.getElem_toArray, List.getElem_cons_succ, List.getElem_cons_zero]; go_simp; try (with_reducible rfl))
            simp only [List.getElem_toArray, List.getElem_cons_succ, List.getElem_cons_zero, Act.put, List.setIfInBounds_toArray, List.set_cons_zero, List.set_cons_succ]
            have B0 := Lib.hid (Below.refl wd.heap.size wd)
            refine wpAnyH_ready (rs := [3, 5]) (by kernel_rfl) (by simp) (AllReadyH.cons rfl (fun K hK => ?_) (AllReadyH.cons rfl (fun K hK => ?_) AllReadyH.nil))
            · simp only [List.getElem_toArray, List.getElem_cons_succ, List.getElem_cons_zero]
              refine wp_emptyA rfl hi ?_
              obtain ⟨V3, hWn⟩ : ∃ v, v = wd.alloc (.cells #[] 31) := ⟨_, rfl⟩
              rw [← hWn]
              have hbb : Below wd.heap.size wd V3 := by rw [hWn]; exact (Below.refl _ _).alloc (Nat.le_refl _) _
              have B1 := Lib.hid (B0.out.trans (hbb.mono B0.out.size))
              obtain ⟨gA, hgA⟩ : ∃ z, z = wd.heap.size := ⟨_, rfl⟩
              have O1 := Lib.hid (show V3.ownsRow wd.heap.size 31 4 (.slice (some ⟨gA, 0, none⟩) 0 0) 0 [] by rw [hgA, hWn]; exact own_emptyA _ _ B0.out.size)
              rw [← hgA]
              clear hbb hWn hgA
              refine hK.out _ _ (HS.out _ B1.out) (fun hHeld1 => ?_)
              clear hK K hHeld
              have hHeld := hHeld1; clear hHeld1
              try simp only [List.getElem_toArray, List.getElem_cons_succ, List.getElem_cons_zero, Act.put, List.setIfInBounds_toArray, List.set_cons_zero, List.set_cons_succ]
              refine wpAnyH_ready (rs := [5]) (by kernel_rfl) (by simp) (AllReadyH.cons rfl (fun K hK => ?_) AllReadyH.nil)
              simp only [List.getElem_toArray, List.getElem_cons_succ, List.getElem_cons_zero]
              go_simp
              obtain ⟨V35, hWn⟩ : ∃ v, v = V3.alloc (.cells #[.string mn, .bool mt, .int .i64 mi, .string ms] 31) := ⟨_, rfl⟩
              rw [← hWn]
              have hbb : Below V3.heap.size V3 V35 := by rw [hWn]; exact (Below.refl _ _).alloc (Nat.le_refl _) _
              have B2 := Lib.hid (B1.out.trans (hbb.mono B1.out.size))
              have RR2 := Lib.hid (show RwA V35 V3.heap.size #[.string mn, .bool mt, .int .i64 mi, .string ms] by rw [hWn]; exact RwA.new ..)
              obtain ⟨gB, hgB⟩ : ∃ z, z = V3.heap.size := ⟨_, rfl⟩
              rw [← hgB] at RR2 ⊢
              have O2 := Lib.hid (own_same O1.out hbb)
              have NE := Lib.hid (show ¬ gB = gA by have h1 := (rowLt (g := gA) O1.out rfl).2; omega)
              clear hbb hWn hgB
              refine hK.out _ _ (HS.out _ B2.out) (fun hHeld1 => ?_)
              clear hK K hHeld
              have hHeld := hHeld1; clear hHeld1
              try simp only [List.getElem_toArray, List.getElem_cons_succ, List.getElem_cons_zero, Act.put, List.setIfInBounds_toArray, List.set_cons_zero, List.set_cons_succ]
              refine wpAnyH_ready (rs := [6]) (by kernel_rfl) (by simp) (AllReadyH.cons rfl (fun K hK => ?_) AllReadyH.nil)
              simp only [List.getElem_toArray, List.getElem_cons_succ, List.getElem_cons_zero]
              refine wp_append_lies V35 (.tmp 125) (.tmp 127) 22 rfl wd.heap.size 31 i0 (.agg #[.string ⟨#[]⟩, .bool false, .int .i64 0, .string ⟨#[]⟩]) 4 48 Try.underlying22 hi hz0 hz1 hz2 rfl (by decide) (.slice (some ⟨gA, 0, none⟩) 0 0) 0 [] rfl O2.out ⟨gB, 0, none⟩ 1 1 [.string mn, .bool mt, .int .i64 mi, .string ms] rfl rfl (World.news_of_block (show V35.heap[gB]? = some (.cells #[.string mn, .bool mt, .int .i64 mi, .string ms] 31 (0, 0)) from RR2.out)) (by intro u hu; simp at hu; rcases hu with rfl | rfl | rfl | rfl <;> rfl) (by decide) (by unfold maxLen; omega) (by omega) B2.out.size V35.heap.size rfl ?_
              intro gP capP V356 hown hgrow hat hglt
              have B3 := Lib.hid (show Below wd.heap.size wd V356 from Ck.own_below B2.out O2.out hgrow)
              try simp only [Nat.zero_add, List.nil_append] at hown
              have O3 := Lib.hid hown
              try simp only [Nat.zero_add]
              clear hown hgrow hat hglt
              refine hK.out _ _ (HS.out _ B3.out) (fun hHeld1 => ?_)
              clear hK K hHeld
              have hHeld := hHeld1; clear hHeld1
              try simp only [List.getElem_toArray, List.getElem_cons_succ, List.getElem_cons_zero, Act.put, List.setIfInBounds_toArray, List.set_cons_zero, List.set_cons_succ]
              refine wpAnyH_ready (rs := [8]) (by kernel_rfl) (by simp) (AllReadyH.cons rfl (fun K hK => ?_) AllReadyH.nil)
              simp only [List.getElem_toArray, List.getElem_cons_succ, List.getElem_cons_zero]
              refine wp_append_zero (.tmp 128) (.tmp 129) 22 31 rfl i0 Try.underlying22 hi gP 1 capP la lc rfl rfl (own_cap O3.out) ?_
              have B4 := B3
              have AQ := Lib.hid (show AttsAt V356 (Old V356.heap.size) (some ⟨gP, 0, none⟩) (m :: l) from row_atts (l := m :: l) (n := 1) (d := capP) (by rw [show attCs (m :: l) = [.string mn, .bool mt, .int .i64 mi, .string ms] ++ attCs l from HCM.out, HL0.out]; exact O3.out) (by rw [HL0.out]; rfl) (by rw [HL0.out]; simp [maxLen]) HOKS.out)
              refine hK.out _ _ (HS.out _ B4.out) (fun hHeld1 => ?_)
              clear hK K hHeld
              have hHeld := hHeld1; clear hHeld1
              try simp only [List.getElem_toArray, List.getElem_cons_succ, List.getElem_cons_zero, Act.put, List.setIfInBounds_toArray, List.set_cons_zero, List.set_cons_succ]
              refine wpAnyH_ready (rs := [9]) (by kernel_rfl) (by simp) (AllReadyH.cons rfl (fun K hK => ?_) AllReadyH.nil)
              simp only [List.getElem_toArray, List.getElem_cons_succ, List.getElem_cons_zero]
              go_simp
              have CQ := CM.out (some ⟨gP, 0, none⟩) capP V356 (HF.out _ (C18.out.trans (B4.out.mono C18.out.size))) AQ.out
              rw [show (m :: l).length = 1 by rw [List.length_cons, HL0.out]; rfl] at CQ
              go_at_call 8; refine Calls.mono CQ ?_; rintro e V35689 ⟨rfl, hbb⟩
              try go_wp2_with fail
              have B5 := Lib.hid (B4.out.trans (hbb.mono B4.out.size))
              clear hbb CQ
              refine hK.out _ _ (HS.out _ B5.out) (fun hHeld1 => ?_)
              clear hK K hHeld
              have hHeld := hHeld1; clear hHeld1
              try simp only [List.getElem_toArray, List.getElem_cons_succ, List.getElem_cons_zero, Act.put, List.setIfInBounds_toArray, List.set_cons_zero, List.set_cons_succ]
              refine wpAnyH_take (i := 11) (v := ?vX9) rfl (by kernel_rfl) (by kernel_rfl) (by kernel_rfl) (fun _ _ _ h => h) (Or.inl ⟨by rfl, ?yX9⟩) hHeld ?rX9
              case yX9 => (intro W hSw; simp only [List.getElem_toArray, List.getElem_cons_succ, List.getElem_cons_zero]; go_simp; try (with_reducible rfl))
              simp only [List.getElem_toArray, List.getElem_cons_succ, List.getElem_cons_zero, Act.put, List.setIfInBounds_toArray, List.set_cons_zero, List.set_cons_succ]
              refine wpAnyH_take (i := 12) (v := ?vX10) rfl (by kernel_rfl) (by kernel_rfl) (by kernel_rfl) (fun _ _ _ h => h) (Or.inl ⟨by rfl, ?yX10⟩) hHeld ?rX10
              case yX10 => (intro W hSw; simp only [List.getElem_toArray, List.getElem_cons_succ, List.getElem_cons_zero]; go_simp; try (with_reducible rfl))
              simp only [List.getElem_toArray, List.getElem_cons_succ, List.getElem_cons_zero, Act.put, List.setIfInBounds_toArray, List.set_cons_zero, List.set_cons_succ]
              refine wpAnyH_take (i := 13) (v := ?vX11) rfl (by kernel_rfl) (by kernel_rfl) (by kernel_rfl) (fun _ _ _ h => h) (Or.inl ⟨by rfl, ?yX11⟩) hHeld ?rX11
              case yX11 => (intro W hSw; simp only [List.getElem_toArray, List.getElem_cons_succ, List.getElem_cons_zero]; go_simp; try (with_reducible rfl))
              simp only [List.getElem_toArray, List.getElem_cons_succ, List.getElem_cons_zero, Act.put, List.setIfInBounds_toArray, List.set_cons_zero, List.set_cons_succ]
              refine wpAnyH_done (by kernel_rfl) ?_ _
              go_wp2_with fail
              go_ret
              exact ⟨rfl, (KEEP.out _ (C18.out.trans (B5.out.mono C18.out.size))).2.2.2⟩
            · simp only [List.getElem_toArray, List.getElem_cons_succ, List.getElem_cons_zero]
              go_simp
              obtain ⟨V5, hWn⟩ : ∃ v, v = wd.alloc (.cells #[.string mn, .bool mt, .int .i64 mi, .string ms] 31) := ⟨_, rfl⟩
              rw [← hWn]
              have hbb : Below wd.heap.size wd V5 := by rw [hWn]; exact (Below.refl _ _).alloc (Nat.le_refl _) _
              have B1 := Lib.hid (B0.out.trans (hbb.mono B0.out.size))
              have RR1 := Lib.hid (show RwA V5 wd.heap.size #[.string mn, .bool mt, .int .i64 mi, .string ms] by rw [hWn]; exact RwA.new ..)
              obtain ⟨gB, hgB⟩ : ∃ z, z = wd.heap.size := ⟨_, rfl⟩
              rw [← hgB] at RR1 ⊢
              clear hbb hWn hgB
              refine hK.out _ _ (HS.out _ B1.out) (fun hHeld1 => ?_)
              clear hK K hHeld
              have hHeld := hHeld1; clear hHeld1
              try simp only [List.getElem_toArray, List.getElem_cons_succ, List.getElem_cons_zero, Act.put, List.setIfInBounds_toArray, List.set_cons_zero, List.set_cons_succ]
              refine wpAnyH_ready (rs := [3]) (by kernel_rfl) (by simp) (AllReadyH.cons rfl (fun K hK => ?_) AllReadyH.nil)
              simp only [List.getElem_toArray, List.getElem_cons_succ, List.getElem_cons_zero]
              refine wp_emptyA rfl hi ?_
              obtain ⟨V53, hWn⟩ : ∃ v, v = V5.alloc (.cells #[] 31) := ⟨_, rfl⟩
              rw [← hWn]
              have hbb : Below V5.heap.size V5 V53 := by rw [hWn]; exact (Below.refl _ _).alloc (Nat.le_refl _) _
              have B2 := Lib.hid (B1.out.trans (hbb.mono B1.out.size))
              obtain ⟨gA, hgA⟩ : ∃ z, z = V5.heap.size := ⟨_, rfl⟩
              have O2 := Lib.hid (show V53.ownsRow wd.heap.size 31 4 (.slice (some ⟨gA, 0, none⟩) 0 0) 0 [] by rw [hgA, hWn]; exact own_emptyA _ _ B1.out.size)
              rw [← hgA]
              have RR2 := Lib.hid (RR1.out.later hbb)
              have NE := Lib.hid (show ¬ gB = gA by have h1 := RR1.out.lt; omega)
              clear hbb hWn hgA
              refine hK.out _ _ (HS.out _ B2.out) (fun hHeld1 => ?_)
              clear hK K hHeld
              have hHeld := hHeld1; clear hHeld1
              try simp only [List.getElem_toArray, List.getElem_cons_succ, List.getElem_cons_zero, Act.put, List.setIfInBounds_toArray, List.set_cons_zero, List.set_cons_succ]
              refine wpAnyH_ready (rs := [6]) (by kernel_rfl) (by simp) (AllReadyH.cons rfl (fun K hK => ?_) AllReadyH.nil)
              simp only [List.getElem_toArray, List.getElem_cons_succ, List.getElem_cons_zero]
              refine wp_append_lies V53 (.tmp 125) (.tmp 127) 22 rfl wd.heap.size 31 i0 (.agg #[.string ⟨#[]⟩, .bool false, .int .i64 0, .string ⟨#[]⟩]) 4 48 Try.underlying22 hi hz0 hz1 hz2 rfl (by decide) (.slice (some ⟨gA, 0, none⟩) 0 0) 0 [] rfl O2.out ⟨gB, 0, none⟩ 1 1 [.string mn, .bool mt, .int .i64 mi, .string ms] rfl rfl (World.news_of_block (show V53.heap[gB]? = some (.cells #[.string mn, .bool mt, .int .i64 mi, .string ms] 31 (0, 0)) from RR2.out)) (by intro u hu; simp at hu; rcases hu with rfl | rfl | rfl | rfl <;> rfl) (by decide) (by unfold maxLen; omega) (by omega) B2.out.size V53.heap.size rfl ?_
              intro gP capP V356 hown hgrow hat hglt
              have B3 := Lib.hid (show Below wd.heap.size wd V356 from Ck.own_below B2.out O2.out hgrow)
              try simp only [Nat.zero_add, List.nil_append] at hown
              have O3 := Lib.hid hown
              try simp only [Nat.zero_add]
              clear hown hgrow hat hglt
              refine hK.out _ _ (HS.out _ B3.out) (fun hHeld1 => ?_)
              clear hK K hHeld
              have hHeld := hHeld1; clear hHeld1
              try simp only [List.getElem_toArray, List.getElem_cons_succ, List.getElem_cons_zero, Act.put, List.setIfInBounds_toArray, List.set_cons_zero, List.set_cons_succ]
              refine wpAnyH_ready (rs := [8]) (by kernel_rfl) (by simp) (AllReadyH.cons rfl (fun K hK => ?_) AllReadyH.nil)
              simp only [List.getElem_toArray, List.getElem_cons_succ, List.getElem_cons_zero]
              refine wp_append_zero (.tmp 128) (.tmp 129) 22 31 rfl i0 Try.underlying22 hi gP 1 capP la lc rfl rfl (own_cap O3.out) ?_
              have B4 := B3
              have AQ := Lib.hid (show AttsAt V356 (Old V356.heap.size) (some ⟨gP, 0, none⟩) (m :: l) from row_atts (l := m :: l) (n := 1) (d := capP) (by rw [show attCs (m :: l) = [.string mn, .bool mt, .int .i64 mi, .string ms] ++ attCs l from HCM.out, HL0.out]; exact O3.out) (by rw [HL0.out]; rfl) (by rw [HL0.out]; simp [maxLen]) HOKS.out)
              refine hK.out _ _ (HS.out _ B4.out) (fun hHeld1 => ?_)
              clear hK K hHeld
              have hHeld := hHeld1; clear hHeld1
              try simp only [List.getElem_toArray, List.getElem_cons_succ, List.getElem_cons_zero, Act.put, List.setIfInBounds_toArray, List.set_cons_zero, List.set_cons_succ]
              refine wpAnyH_ready (rs := [9]) (by kernel_rfl) (by simp) (AllReadyH.cons rfl (fun K hK => ?_) AllReadyH.nil)
              simp only [List.getElem_toArray, List.getElem_cons_succ, List.getElem_cons_zero]
              go_simp
              have CQ := CM.out (some ⟨gP, 0, none⟩) capP V356 (HF.out _ (C18.out.trans (B4.out.mono C18.out.size))) AQ.out
              rw [show (m :: l).length = 1 by rw [List.length_cons, HL0.out]; rfl] at CQ
              go_at_call 8; refine Calls.mono CQ ?_; rintro e V35689 ⟨rfl, hbb⟩
              try go_wp2_with fail
              have B5 := Lib.hid (B4.out.trans (hbb.mono B4.out.size))
              clear hbb CQ
              refine hK.out _ _ (HS.out _ B5.out) (fun hHeld1 => ?_)
              clear hK K hHeld
              have hHeld := hHeld1; clear hHeld1
              try simp only [List.getElem_toArray, List.getElem_cons_succ, List.getElem_cons_zero, Act.put, List.setIfInBounds_toArray, List.set_cons_zero, List.set_cons_succ]
              refine wpAnyH_take (i := 11) (v := ?vX12) rfl (by kernel_rfl) (by kernel_rfl) (by kernel_rfl) (fun _ _ _ h => h) (Or.inl ⟨by rfl, ?yX12⟩) hHeld ?rX12
              case yX12 => (intro W hSw; simp only [List.getElem_toArray, List.getElem_cons_succ, List.getElem_cons_zero]; go_simp; try (with_reducible rfl))
              simp only [List.getElem_toArray, List.getElem_cons_succ, List.getElem_cons_zero, Act.put, List.setIfInBounds_toArray, List.set_cons_zero, List.set_cons_succ]
              refine wpAnyH_take (i := 12) (v := ?vX13) rfl (by kernel_rfl) (by kernel_rfl) (by kernel_rfl) (fun _ _ _ h => h) (Or.inl ⟨by rfl, ?yX13⟩) hHeld ?rX13
              case yX13 => (intro W hSw; simp only [List.getElem_toArray, List.getElem_cons_succ, List.getElem_cons_zero]; go_simp; try (with_reducible rfl))
              simp only [List.getElem_toArray, List.getElem_cons_succ, List.getElem_cons_zero, Act.put, List.setIfInBounds_toArray, List.set_cons_zero, List.set_cons_succ]
              refine wpAnyH_take (i := 13) (v := ?vX14) rfl (by kernel_rfl) (by kernel_rfl) (by kernel_rfl) (fun _ _ _ h => h) (Or.inl ⟨by rfl, ?yX14⟩) hHeld ?rX14
              case yX14 => (intro W hSw; simp only [List.getElem_toArray, List.getElem_cons_succ, List.getElem_cons_zero]; go_simp; try (with_reducible rfl))
              simp only [List.getElem_toArray, List.getElem_cons_succ, List.getElem_cons_zero, Act.put, List.setIfInBounds_toArray, List.set_cons_zero, List.set_cons_succ]
              refine wpAnyH_done (by kernel_rfl) ?_ _
              go_wp2_with fail
              go_ret
              exact ⟨rfl, (KEEP.out _ (C18.out.trans (B5.out.mono C18.out.size))).2.2.2⟩
          · have hn0p : 0 < n := by omega
            obtain ⟨gX, oX, hla, hgx, hlx⟩ := atts_lies (HA.out _ C18.out) (by rw [← HN.out]; exact hn0p)
            have HGX := Lib.hid (show gX < wd.heap.size from hgx)
            have HLX := Lib.hid hlx
            subst hla
            clear hgx hlx
            go_wp2_with fail
            refine wp_region_held_drew (S := (fun W => W.cell? ⟨w.heap.size, 0, none⟩ = some (.int .i64 k) ∧ W.cell? ⟨w.heap.size, 1, none⟩ = some (.string sn) ∧ W.cell? ⟨w.heap.size, 2, none⟩ = some (.string so) ∧ W.cell? ⟨w.heap.size, 3, none⟩ = some (.slice a nv c) ∧ W.cell? ⟨w.heap.size, 4, none⟩ = some (.slice b np d) ∧ W.cell? ⟨w.heap.size + 2, 0, none⟩ = some (.string mn) ∧ W.cell? ⟨w.heap.size + 2, 1, none⟩ = some (.bool mt) ∧ W.cell? ⟨w.heap.size + 2, 2, none⟩ = some (.int .i64 mi) ∧ W.cell? ⟨w.heap.size + 2, 3, none⟩ = some (.string ms))) (by kernel_rfl) (by rw [← HWD.out]; exact HS.out _ (Below.refl _ _)) (fun hHeld => ?_)
            rw [← HWD.out] at hHeld ⊢
            refine wpAnyH_take (i := 0) (v := ?vP0) rfl (by kernel_rfl) (by kernel_rfl) (by kernel_rfl) (fun _ _ _ h => h) (Or.inl ⟨by rfl, ?yP0⟩) hHeld ?rP0
            case yP0 => (intro W hSw; simp only [List.getElem_toArray, List.getElem_cons_zero]; go_simp; try (with_reducible rfl))
            simp only [List.getElem_toArray, List.getElem_cons_zero, Act.put, List.setIfInBounds_toArray, List.set_cons_zero, List.set_cons_succ]
            refine wpAnyH_take (i := 1) (v := ?vP1) rfl (by kernel_rfl) (by kernel_rfl) (by kernel_rfl) (fun _ _ _ h => h) (Or.inl ⟨by rfl, ?yP1⟩) hHeld ?rP1
            case yP1 => (intro W hSw; simp only [List.getElem_toArray, List.getElem_cons_succ, List.getElem_cons_zero]; go_simp; try (with_reducible rfl))
            simp only [List.getElem_toArray, List.getElem_cons_succ, List.getElem_cons_zero, Act.put, List.setIfInBounds_toArray, List.set_cons_zero, List.set_cons_succ]
            refine wpAnyH_take (i := 2) (v := ?vP2) rfl (by kernel_rfl) (by kernel_rfl) (by kernel_rfl) (fun _ _ _ h => h) (Or.inl ⟨by rfl, ?yP2⟩) hHeld ?rP2
            case yP2 => (intro W hSw; simp only [List.getElem_toArray, List.getElem_cons_succ, List.getElem_cons_zero]; go_simp; try (with_reducible rfl))
            simp only [List.getElem_toArray, List.getElem_cons_succ, List.getElem_cons_zero, Act.put, List.setIfInBounds_toArray, List.set_cons_zero, List.set_cons_succ]
            refine wpAnyH_take (i := 4) (v := ?vP4) rfl (by kernel_rfl) (by kernel_rfl) (by kernel_rfl) (fun _ _ _ h => h) (Or.inl ⟨by rfl, ?yP4⟩) hHeld ?rP4
            case yP4 => (intro W hSw; simp only [List.getElem_toArray, List.getElem_cons_succ, List.getElem_cons_zero]; go_simp; try (with_reducible rfl))
            simp only [List.getElem_toArray, List.getElem_cons_succ, List.getElem_cons_zero, Act.put, List.setIfInBounds_toArray, List.set_cons_zero, List.set_cons_succ]
            refine wpAnyH_take (i := 7) (v := ?vP7) rfl (by kernel_rfl) (by kernel_rfl) (by kernel_rfl) (fun _ _ _ h => h) (Or.inl ⟨by rfl, ?yP7⟩) hHeld ?rP7
            case yP7 => (intro W hSw; simp only [List.getElem_toArray, List.getElem_cons_succ, List.getElem_cons_zero]; go_simp; try (with_reducible rfl))
            simp only [List.getElem_toArray, List.getElem_cons_succ, List.getElem_cons_zero, Act.put, List.setIfInBounds_toArray, List.set_cons_zero, List.set_cons_succ]
            refine wpAnyH_take (i := 10) (v := ?vP10) rfl (by kernel_rfl) (by kernel_rfl) (by kernel_rfl) (fun _ _ _ h => h) (Or.inl ⟨by rfl, ?yP10⟩) hHeld ?rP10
            case yP10 => (intro W hSw; simp only [List.getElem_toArray, List.getElem_cons_succ, List.getElem_cons_zero]; go_simp; try (with_reducible rfl))
            simp only [List.getElem_toArray, List.getElem_cons_succ, List.getElem_cons_zero, Act.put, List.setIfInBounds_toArray, List.set_cons_zero, List.set_cons_succ]
            have B0 := Lib.hid (Below.refl wd.heap.size wd)
            refine wpAnyH_ready (rs := [3, 5]) (by kernel_rfl) (by simp) (AllReadyH.cons rfl (fun K hK => ?_) (AllReadyH.cons rfl (fun K hK => ?_) AllReadyH.nil))
            · simp only [List.getElem_toArray, List.getElem_cons_succ, List.getElem_cons_zero]
              refine wp_emptyA rfl hi ?_
              obtain ⟨V3, hWn⟩ : ∃ v, v = wd.alloc (.cells #[] 31) := ⟨_, rfl⟩
              rw [← hWn]
              have hbb : Below wd.heap.size wd V3 := by rw [hWn]; exact (Below.refl _ _).alloc (Nat.le_refl _) _
              have B1 := Lib.hid (B0.out.trans (hbb.mono B0.out.size))
              obtain ⟨gA, hgA⟩ : ∃ z, z = wd.heap.size := ⟨_, rfl⟩
              have O1 := Lib.hid (show V3.ownsRow wd.heap.size 31 4 (.slice (some ⟨gA, 0, none⟩) 0 0) 0 [] by rw [hgA, hWn]; exact own_emptyA _ _ B0.out.size)
              rw [← hgA]
              clear hbb hWn hgA
              refine hK.out _ _ (HS.out _ B1.out) (fun hHeld1 => ?_)
              clear hK K hHeld
              have hHeld := hHeld1; clear hHeld1
              try simp only [List.getElem_toArray, List.getElem_cons_succ, List.getElem_cons_zero, Act.put, List.setIfInBounds_toArray, List.set_cons_zero, List.set_cons_succ]
              refine wpAnyH_ready (rs := [5]) (by kernel_rfl) (by simp) (AllReadyH.cons rfl (fun K hK => ?_) AllReadyH.nil)
              simp only [List.getElem_toArray, List.getElem_cons_succ, List.getElem_cons_zero]
              go_simp
              obtain ⟨V35, hWn⟩ : ∃ v, v = V3.alloc (.cells #[.string mn, .bool mt, .int .i64 mi, .string ms] 31) := ⟨_, rfl⟩
              rw [← hWn]
              have hbb : Below V3.heap.size V3 V35 := by rw [hWn]; exact (Below.refl _ _).alloc (Nat.le_refl _) _
              have B2 := Lib.hid (B1.out.trans (hbb.mono B1.out.size))
              have RR2 := Lib.hid (show RwA V35 V3.heap.size #[.string mn, .bool mt, .int .i64 mi, .string ms] by rw [hWn]; exact RwA.new ..)
              obtain ⟨gB, hgB⟩ : ∃ z, z = V3.heap.size := ⟨_, rfl⟩
              rw [← hgB] at RR2 ⊢
              have O2 := Lib.hid (own_same O1.out hbb)
              have NE := Lib.hid (show ¬ gB = gA by have h1 := (rowLt (g := gA) O1.out rfl).2; omega)
              clear hbb hWn hgB
              refine hK.out _ _ (HS.out _ B2.out) (fun hHeld1 => ?_)
              clear hK K hHeld
              have hHeld := hHeld1; clear hHeld1
              try simp only [List.getElem_toArray, List.getElem_cons_succ, List.getElem_cons_zero, Act.put, List.setIfInBounds_toArray, List.set_cons_zero, List.set_cons_succ]
              refine wpAnyH_ready (rs := [6]) (by kernel_rfl) (by simp) (AllReadyH.cons rfl (fun K hK => ?_) AllReadyH.nil)
              simp only [List.getElem_toArray, List.getElem_cons_succ, List.getElem_cons_zero]
              refine wp_append_lies V35 (.tmp 125) (.tmp 127) 22 rfl wd.heap.size 31 i0 (.agg #[.string ⟨#[]⟩, .bool false, .int .i64 0, .string ⟨#[]⟩]) 4 48 Try.underlying22 hi hz0 hz1 hz2 rfl (by decide) (.slice (some ⟨gA, 0, none⟩) 0 0) 0 [] rfl O2.out ⟨gB, 0, none⟩ 1 1 [.string mn, .bool mt, .int .i64 mi, .string ms] rfl rfl (World.news_of_block (show V35.heap[gB]? = some (.cells #[.string mn, .bool mt, .int .i64 mi, .string ms] 31 (0, 0)) from RR2.out)) (by intro u hu; simp at hu; rcases hu with rfl | rfl | rfl | rfl <;> rfl) (by decide) (by unfold maxLen; omega) (by omega) B2.out.size V35.heap.size rfl ?_
              intro gP capP V356 hown hgrow hat hglt
              have B3 := Lib.hid (show Below wd.heap.size wd V356 from Ck.own_below B2.out O2.out hgrow)
              try simp only [Nat.zero_add, List.nil_append] at hown
              have O3 := Lib.hid hown
              try simp only [Nat.zero_add]
              clear hown hgrow hat hglt
              refine hK.out _ _ (HS.out _ B3.out) (fun hHeld1 => ?_)
              clear hK K hHeld
              have hHeld := hHeld1; clear hHeld1
              try simp only [List.getElem_toArray, List.getElem_cons_succ, List.getElem_cons_zero, Act.put, List.setIfInBounds_toArray, List.set_cons_zero, List.set_cons_succ]
              refine wpAnyH_ready (rs := [8]) (by kernel_rfl) (by simp) (AllReadyH.cons rfl (fun K hK => ?_) AllReadyH.nil)
              simp only [List.getElem_toArray, List.getElem_cons_succ, List.getElem_cons_zero]
              refine wp_append_lies V356 (.tmp 128) (.tmp 129) 22 rfl wd.heap.size 31 i0 (.agg #[.string ⟨#[]⟩, .bool false, .int .i64 0, .string ⟨#[]⟩]) 4 48 Try.underlying22 hi hz0 hz1 hz2 rfl (by decide) (.slice (some ⟨gP, 0, none⟩) 1 capP) 1 [.string mn, .bool mt, .int .i64 mi, .string ms] rfl O3.out ⟨gX, oX, none⟩ n lc (attCs l) rfl (by rw [HN.out]; exact attCs_length l) (fun j u hu => lies_laterA B3.out HGX.out HLX.out j u hu) (attCs_one l) hn0p (by unfold maxLen; omega) (by omega) B3.out.size V356.heap.size rfl ?_
              intro gQ capQ V3568 hown hgrow hat hglt
              have B4 := Lib.hid (show Below wd.heap.size wd V3568 from Ck.own_below B3.out O3.out hgrow)
              have AQ := Lib.hid (show AttsAt V3568 (Old V3568.heap.size) (some ⟨gQ, 0, none⟩) (m :: l) from row_atts (l := m :: l) (by rw [show attCs (m :: l) = [.string mn, .bool mt, .int .i64 mi, .string ms] ++ attCs l from HCM.out]; exact hown) (by rw [List.length_cons, ← HN.out]; omega) (by rw [List.length_cons, ← HN.out]; unfold maxLen; omega) HOKS.out)
              clear hown hgrow hat hglt
              refine hK.out _ _ (HS.out _ B4.out) (fun hHeld1 => ?_)
              clear hK K hHeld
              have hHeld := hHeld1; clear hHeld1
              try simp only [List.getElem_toArray, List.getElem_cons_succ, List.getElem_cons_zero, Act.put, List.setIfInBounds_toArray, List.set_cons_zero, List.set_cons_succ]
              refine wpAnyH_ready (rs := [9]) (by kernel_rfl) (by simp) (AllReadyH.cons rfl (fun K hK => ?_) AllReadyH.nil)
              simp only [List.getElem_toArray, List.getElem_cons_succ, List.getElem_cons_zero]
              go_simp
              have CQ := CM.out (some ⟨gQ, 0, none⟩) capQ V3568 (HF.out _ (C18.out.trans (B4.out.mono C18.out.size))) AQ.out
              rw [show (m :: l).length = 1 + n by rw [List.length_cons, ← HN.out]; omega] at CQ
              go_at_call 8; refine Calls.mono CQ ?_; rintro e V35689 ⟨rfl, hbb⟩
              try go_wp2_with fail
              have B5 := Lib.hid (B4.out.trans (hbb.mono B4.out.size))
              clear hbb CQ
              refine hK.out _ _ (HS.out _ B5.out) (fun hHeld1 => ?_)
              clear hK K hHeld
              have hHeld := hHeld1; clear hHeld1
              try simp only [List.getElem_toArray, List.getElem_cons_succ, List.getElem_cons_zero, Act.put, List.setIfInBounds_toArray, List.set_cons_zero, List.set_cons_succ]
              refine wpAnyH_take (i := 11) (v := ?vX15) rfl (by kernel_rfl) (by kernel_rfl) (by kernel_rfl) (fun _ _ _ h => h) (Or.inl ⟨by rfl, ?yX15⟩) hHeld ?rX15
              case yX15 => (intro W hSw; simp only [List.getElem_toArray, List.getElem_cons_succ, List.getElem_cons_zero]; go_simp; try (with_reducible rfl))
              simp only [List.getElem_toArray, List.getElem_cons_succ, List.getElem_cons_zero, Act.put, List.setIfInBounds_toArray, List.set_cons_zero, List.set_cons_succ]
              refine wpAnyH_take (i := 12) (v := ?vX16) rfl (by kernel_rfl) (by kernel_rfl) (by kernel_rfl) (fun _ _ _ h => h) (Or.inl ⟨by rfl, ?yX16⟩) hHeld ?rX16
              case yX16 => (intro W hSw; simp only [List.getElem_toArray, List.getElem_cons_succ, List.getElem_cons_zero]; go_simp; try (with_reducible rfl))
              simp only [List.getElem_toArray, List.getElem_cons_succ, List.getElem_cons_zero, Act.put, List.setIfInBounds_toArray, List.set_cons_zero, List.set_cons_succ]
              refine wpAnyH_take (i := 13) (v := ?vX17) rfl (by kernel_rfl) (by kernel_rfl) (by kernel_rfl) (fun _ _ _ h => h) (Or.inl ⟨by rfl, ?yX17⟩) hHeld ?rX17
              case yX17 => (intro W hSw; simp only [List.getElem_toArray, List.getElem_cons_succ, List.getElem_cons_zero]; go_simp; try (with_reducible rfl))
              simp only [List.getElem_toArray, List.getElem_cons_succ, List.getElem_cons_zero, Act.put, List.setIfInBounds_toArray, List.set_cons_zero, List.set_cons_succ]
              refine wpAnyH_done (by kernel_rfl) ?_ _
              go_wp2_with fail
              go_ret
              exact ⟨rfl, (KEEP.out _ (C18.out.trans (B5.out.mono C18.out.size))).2.2.2⟩
            · simp only [List.getElem_toArray, List.getElem_cons_succ, List.getElem_cons_zero]
              go_simp
              obtain ⟨V5, hWn⟩ : ∃ v, v = wd.alloc (.cells #[.string mn, .bool mt, .int .i64 mi, .string ms] 31) := ⟨_, rfl⟩
              rw [← hWn]
              have hbb : Below wd.heap.size wd V5 := by rw [hWn]; exact (Below.refl _ _).alloc (Nat.le_refl _) _
              have B1 := Lib.hid (B0.out.trans (hbb.mono B0.out.size))
              have RR1 := Lib.hid (show RwA V5 wd.heap.size #[.string mn, .bool mt, .int .i64 mi, .string ms] by rw [hWn]; exact RwA.new ..)
              obtain ⟨gB, hgB⟩ : ∃ z, z = wd.heap.size := ⟨_, rfl⟩
              rw [← hgB] at RR1 ⊢
              clear hbb hWn hgB
              refine hK.out _ _ (HS.out _ B1.out) (fun hHeld1 => ?_)
              clear hK K hHeld
              have hHeld := hHeld1; clear hHeld1
              try simp only [List.getElem_toArray, List.getElem_cons_succ, List.getElem_cons_zero, Act.put, List.setIfInBounds_toArray, List.set_cons_zero, List.set_cons_succ]
              refine wpAnyH_ready (rs := [3]) (by kernel_rfl) (by simp) (AllReadyH.cons rfl (fun K hK => ?_) AllReadyH.nil)
              simp only [List.getElem_toArray, List.getElem_cons_succ, List.getElem_cons_zero]
              refine wp_emptyA rfl hi ?_
              obtain ⟨V53, hWn⟩ : ∃ v, v = V5.alloc (.cells #[] 31) := ⟨_, rfl⟩
              rw [← hWn]
              have hbb : Below V5.heap.size V5 V53 := by rw [hWn]; exact (Below.refl _ _).alloc (Nat.le_refl _) _
              have B2 := Lib.hid (B1.out.trans (hbb.mono B1.out.size))
              obtain ⟨gA, hgA⟩ : ∃ z, z = V5.heap.size := ⟨_, rfl⟩
              have O2 := Lib.hid (show V53.ownsRow wd.heap.size 31 4 (.slice (some ⟨gA, 0, none⟩) 0 0) 0 [] by rw [hgA, hWn]; exact own_emptyA _ _ B1.out.size)
              rw [← hgA]
              have RR2 := Lib.hid (RR1.out.later hbb)
              have NE := Lib.hid (show ¬ gB = gA by have h1 := RR1.out.lt; omega)
              clear hbb hWn hgA
              refine hK.out _ _ (HS.out _ B2.out) (fun hHeld1 => ?_)
              clear hK K hHeld
              have hHeld := hHeld1; clear hHeld1
              try simp only [List.getElem_toArray, List.getElem_cons_succ, List.getElem_cons_zero, Act.put, List.setIfInBounds_toArray, List.set_cons_zero, List.set_cons_succ]
              refine wpAnyH_ready (rs := [6]) (by kernel_rfl) (by simp) (AllReadyH.cons rfl (fun K hK => ?_) AllReadyH.nil)
              simp only [List.getElem_toArray, List.getElem_cons_succ, List.getElem_cons_zero]
              refine wp_append_lies V53 (.tmp 125) (.tmp 127) 22 rfl wd.heap.size 31 i0 (.agg #[.string ⟨#[]⟩, .bool false, .int .i64 0, .string ⟨#[]⟩]) 4 48 Try.underlying22 hi hz0 hz1 hz2 rfl (by decide) (.slice (some ⟨gA, 0, none⟩) 0 0) 0 [] rfl O2.out ⟨gB, 0, none⟩ 1 1 [.string mn, .bool mt, .int .i64 mi, .string ms] rfl rfl (World.news_of_block (show V53.heap[gB]? = some (.cells #[.string mn, .bool mt, .int .i64 mi, .string ms] 31 (0, 0)) from RR2.out)) (by intro u hu; simp at hu; rcases hu with rfl | rfl | rfl | rfl <;> rfl) (by decide) (by unfold maxLen; omega) (by omega) B2.out.size V53.heap.size rfl ?_
              intro gP capP V356 hown hgrow hat hglt
              have B3 := Lib.hid (show Below wd.heap.size wd V356 from Ck.own_below B2.out O2.out hgrow)
              try simp only [Nat.zero_add, List.nil_append] at hown
              have O3 := Lib.hid hown
              try simp only [Nat.zero_add]
              clear hown hgrow hat hglt
              refine hK.out _ _ (HS.out _ B3.out) (fun hHeld1 => ?_)
              clear hK K hHeld
              have hHeld := hHeld1; clear hHeld1
              try simp only [List.getElem_toArray, List.getElem_cons_succ, List.getElem_cons_zero, Act.put, List.setIfInBounds_toArray, List.set_cons_zero, List.set_cons_succ]
              refine wpAnyH_ready (rs := [8]) (by kernel_rfl) (by simp) (AllReadyH.cons rfl (fun K hK => ?_) AllReadyH.nil)
              simp only [List.getElem_toArray, List.getElem_cons_succ, List.getElem_cons_zero]
              refine wp_append_lies V356 (.tmp 128) (.tmp 129) 22 rfl wd.heap.size 31 i0 (.agg #[.string ⟨#[]⟩, .bool false, .int .i64 0, .string ⟨#[]⟩]) 4 48 Try.underlying22 hi hz0 hz1 hz2 rfl (by decide) (.slice (some ⟨gP, 0, none⟩) 1 capP) 1 [.string mn, .bool mt, .int .i64 mi, .string ms] rfl O3.out ⟨gX, oX, none⟩ n lc (attCs l) rfl (by rw [HN.out]; exact attCs_length l) (fun j u hu => lies_laterA B3.out HGX.out HLX.out j u hu) (attCs_one l) hn0p (by unfold maxLen; omega) (by omega) B3.out.size V356.heap.size rfl ?_
              intro gQ capQ V3568 hown hgrow hat hglt
              have B4 := Lib.hid (show Below wd.heap.size wd V3568 from Ck.own_below B3.out O3.out hgrow)
              have AQ := Lib.hid (show AttsAt V3568 (Old V3568.heap.size) (some ⟨gQ, 0, none⟩) (m :: l) from row_atts (l := m :: l) (by rw [show attCs (m :: l) = [.string mn, .bool mt, .int .i64 mi, .string ms] ++ attCs l from HCM.out]; exact hown) (by rw [List.length_cons, ← HN.out]; omega) (by rw [List.length_cons, ← HN.out]; unfold maxLen; omega) HOKS.out)
              clear hown hgrow hat hglt
              refine hK.out _ _ (HS.out _ B4.out) (fun hHeld1 => ?_)
              clear hK K hHeld
              have hHeld := hHeld1; clear hHeld1
              try simp only [List.getElem_toArray, List.getElem_cons_succ, List.getElem_cons_zero, Act.put, List.setIfInBounds_toArray, List.set_cons_zero, List.set_cons_succ]
              refine wpAnyH_ready (rs := [9]) (by kernel_rfl) (by simp) (AllReadyH.cons rfl (fun K hK => ?_) AllReadyH.nil)
              simp only [List.getElem_toArray, List.getElem_cons_succ, List.getElem_cons_zero]
              go_simp
              have CQ := CM.out (some ⟨gQ, 0, none⟩) capQ V3568 (HF.out _ (C18.out.trans (B4.out.mono C18.out.size))) AQ.out
              rw [show (m :: l).length = 1 + n by rw [List.length_cons, ← HN.out]; omega] at CQ
              go_at_call 8; refine Calls.mono CQ ?_; rintro e V35689 ⟨rfl, hbb⟩
              try go_wp2_with fail
              have B5 := Lib.hid (B4.out.trans (hbb.mono B4.out.size))
              clear hbb CQ
              refine hK.out _ _ (HS.out _ B5.out) (fun hHeld1 => ?_)
              clear hK K hHeld
              have hHeld := hHeld1; clear hHeld1
              try simp only [List.getElem_toArray, List.getElem_cons_succ, List.getElem_cons_zero, Act.put, List.setIfInBounds_toArray, List.set_cons_zero, List.set_cons_succ]
              refine wpAnyH_take (i := 11) (v := ?vX18) rfl (by kernel_rfl) (by kernel_rfl) (by kernel_rfl) (fun _ _ _ h => h) (Or.inl ⟨by rfl, ?yX18⟩) hHeld ?rX18
              case yX18 => (intro W hSw; simp only [List.getElem_toArray, List.getElem_cons_succ, List.getElem_cons_zero]; go_simp; try (with_reducible rfl))
              simp only [List.getElem_toArray, List.getElem_cons_succ, List.getElem_cons_zero, Act.put, List.setIfInBounds_toArray, List.set_cons_zero, List.set_cons_succ]
              refine wpAnyH_take (i := 12) (v := ?vX19) rfl (by kernel_rfl) (by kernel_rfl) (by kernel_rfl) (fun _ _ _ h => h) (Or.inl ⟨by rfl, ?yX19⟩) hHeld ?rX19
              case yX19 => (intro W hSw; simp only [List.getElem_toArray, List.getElem_cons_succ, List.getElem_cons_zero]; go_simp; try (with_reducible rfl))
              simp only [List.getElem_toArray, List.getElem_cons_succ, List.getElem_cons_zero, Act.put, List.setIfInBounds_toArray, List.set_cons_zero, List.set_cons_succ]
              refine wpAnyH_take (i := 13) (v := ?vX20) rfl (by kernel_rfl) (by kernel_rfl) (by kernel_rfl) (fun _ _ _ h => h) (Or.inl ⟨by rfl, ?yX20⟩) hHeld ?rX20
              case yX20 => (intro W hSw; simp only [List.getElem_toArray, List.getElem_cons_succ, List.getElem_cons_zero]; go_simp; try (with_reducible rfl))
              simp only [List.getElem_toArray, List.getElem_cons_succ, List.getElem_cons_zero, Act.put, List.setIfInBounds_toArray, List.set_cons_zero, List.set_cons_succ]
              refine wpAnyH_done (by kernel_rfl) ?_ _
              go_wp2_with fail
              go_ret
              exact ⟨rfl, (KEEP.out _ (C18.out.trans (B5.out.mono C18.out.size))).2.2.2⟩
end Go.Proofs.Ytcajcmaldnmbjaa.Ev
