/-
  Contracts of the document's answers Deep, Nodes, May: how deep a filter is, how many nodes it has, whether it may be. Memory that was there is left as it was.
-/
import Derived.Test.YtcajcmaldnmbjaaMh06
import Derived.Sort.Walk0
import Derived.BigQuiet
import Derived.Test.YtcajcmaldnmbjaaMh04
import Derived.Test.YtcajcmaldnmbjaaMh05
/-
  Contract of the document's answer Holds: does a filter hold of attributes? Memory that was there is left as it was.
-/
namespace Go.Proofs.Ytcajcmaldnmbjaa.Ev
open Go.RowKit Go.Maps Go.Proofs.Ytcajcmaldnmbjaa.Fl Go.Proofs.Ytcajcmaldnmbjaa.Tk Go.Proofs.Ytcajcmaldnmbjaa.Ck
set_option linter.unusedVariables false
set_option linter.unusedSimpArgs false

def RHOk (la : Option Addr) (l : List Att) (f : Flt) : Prop := ∀ (a : Option Addr) (c : Nat) (b : Option Addr) (d : Nat) (lc : Nat) (w : World), FltAt w (Old w.heap.size) f a b → AttsAt w (Old w.heap.size) la l →
  Calls Try.prog 9 #[.agg #[.int .i64 f.kind, bs f.name, bs f.op, .slice a f.vals.length c, .slice b f.parts.length d], .slice la l.length lc] w fun e w' => e = .returned (.bool (holdsB l f)) ∧ Below w.heap.size w w'
/-- All of the first k are so. -/
def RpR (l : List Att) (v : Bool) (ps : List Flt) (w : World) (vi : Value) (wr : World) : Prop :=
  ∃ k : Nat, k ≤ ps.length ∧ vi = .int .i64 k ∧ Hid (∀ q ∈ ps.take k, holdsB l q = v) ∧ Below w.heap.size w wr
theorem all_more {α : Type} {f : α → Bool} {v : Bool} {vs : List α} {k : Nat} {u : α} (h : ∀ v' ∈ vs.take k, f v' = v) (hk : vs[k]? = some u) (hv : f u = v) : ∀ v' ∈ vs.take (k + 1), f v' = v := by
  rw [List.take_add_one, hk]
  intro z hz
  rcases List.mem_append.1 hz with hz | hz
  · exact h z hz
  · simp at hz
    rw [hz]
    exact hv
theorem allNo {l : List Att} {ps : List Flt} {q : Flt} (h : q ∈ ps) (hv : holdsB l q = false) : ps.all (holdsB l) = false := List.all_eq_false.2 ⟨q, h, by simp [hv]⟩
theorem allYes {l : List Att} {ps : List Flt} (h : ∀ q ∈ ps, holdsB l q = true) : ps.all (holdsB l) = true := List.all_eq_true.2 h
theorem anyNo {l : List Att} {ps : List Flt} (h : ∀ q ∈ ps, holdsB l q = false) : ps.any (holdsB l) = false := List.any_eq_false.2 fun q hq => by simp [h q hq]
theorem anyYes {l : List Att} {ps : List Flt} {q : Flt} (h : q ∈ ps) (hv : holdsB l q = true) : ps.any (holdsB l) = true := List.any_eq_true.2 ⟨q, h, hv⟩
/-- Where the first of a name is; -1: nowhere. -/
def posI : Nat → List Att → List UInt8 → Int
  | _, [], _ => -1
  | i, a :: l, x => if a.name = x then ((i : Nat) : Int) else posI (i + 1) l x
theorem posI_cases : ∀ (i : Nat) (l : List Att) (x : List UInt8), (posI i l x = -1 ∧ attOf l x = none) ∨ ∃ k a, l[k]? = some a ∧ attOf l x = some a ∧ posI i l x = ((i + k : Nat) : Int)
  | i, [], x => .inl ⟨rfl, rfl⟩
  | i, a :: l, x => by
    rw [posI, attOf]
    by_cases h : a.name = x
    · rw [if_pos h, if_pos h]
      exact .inr ⟨0, a, rfl, rfl, rfl⟩
    · rw [if_neg h, if_neg h]
      rcases posI_cases (i + 1) l x with h1 | ⟨k, b, h1, h2, h3⟩
      · exact .inl h1
      · exact .inr ⟨k + 1, b, by simpa using h1, h2, by rw [h3, show i + 1 + k = i + (k + 1) by omega]⟩
def RsR (l : List Att) (x : List UInt8) (w : World) (va vi : Value) (wr : World) : Prop :=
  ∃ m : Nat, m ≤ l.length ∧ vi = .int .i64 ((m : Int) - 1) ∧ va = .int .i64 (posI m (l.drop m) x) ∧ Below w.heap.size w wr
theorem Blk.same {W V : World} {b : Nat} {x y z u : Value} (h : Blk W b x y z u) (e : V.heap[b]? = W.heap[b]?) (hs : W.heap.size ≤ V.heap.size) : Blk V b x y z u := by
  obtain ⟨h0, h1, h2, h3, hf, hl⟩ := h
  have hq : ∀ x, V.cell? ⟨b, x, none⟩ = W.cell? ⟨b, x, none⟩ := fun x => World.cell?_of_block (w := W) (w' := V) (a := ⟨b, x, none⟩) e
  have hg : ∀ x, V.frozen? ⟨b, x, none⟩ = W.frozen? ⟨b, x, none⟩ := fun x => World.frozen?_of_block (w := W) (w' := V) (a := ⟨b, x, none⟩) e
  exact ⟨(hq 0).trans h0, (hq 1).trans h1, (hq 2).trans h2, (hq 3).trans h3, fun o => (hg o).trans (hf o), Nat.lt_of_lt_of_le hl hs⟩
theorem set4_heap (W : World) (b g : Nat) (x y z u : Value) (h : g ≠ b) : (((((W.setCell ⟨b, 0, none⟩ x).setCell ⟨b, 1, none⟩ y).setCell ⟨b, 2, none⟩ z).setCell ⟨b, 3, none⟩ u)).heap[g]? = W.heap[g]? :=
  (Below.heap_setCell _ _ _ _ h).trans ((Below.heap_setCell _ _ _ _ h).trans ((Below.heap_setCell _ _ _ _ h).trans (Below.heap_setCell _ _ _ _ h)))
theorem set4_size (W : World) (b : Nat) (x y z u : Value) : (((((W.setCell ⟨b, 0, none⟩ x).setCell ⟨b, 1, none⟩ y).setCell ⟨b, 2, none⟩ z).setCell ⟨b, 3, none⟩ u)).heap.size = W.heap.size := by simp [World.setCell]
theorem Blk.put {W : World} {b : Nat} {x y z u : Value} (h : Blk W b x y z u) (x' y' z' u' : Value) : Blk ((((W.setCell ⟨b, 0, none⟩ x').setCell ⟨b, 1, none⟩ y').setCell ⟨b, 2, none⟩ z').setCell ⟨b, 3, none⟩ u') b x' y' z' u' := by
  obtain ⟨h0, h1, h2, h3, hf, hl⟩ := h
  refine ⟨?_, ?_, ?_, ?_, fun o => ?_, ?_⟩
  · simp [go_sem, h0, h1, h2, h3]
  · simp [go_sem, h0, h1, h2, h3]
  · simp [go_sem, h0, h1, h2, h3]
  · simp [go_sem, h0, h1, h2, h3]
  · simp [go_sem, hf]
  · rw [set4_size]; exact hl
/-- The values one behind the other: none of the first j is it. -/
def RvR (A : Att) (vs : List Att) (w w5 : World) (k : Int) (sn so : ByteArray) (a : Option Addr) (nv c : Nat) (b : Option Addr) (np d : Nat) (x y z u : Value) (q : Nat) (vi : Value) (wr : World) : Prop :=
  ∃ j : Nat, j ≤ vs.length ∧ vi = .int .i64 j ∧ Hid (∀ v ∈ vs.take j, sameV A v = false) ∧ Below w.heap.size w wr ∧ Box wr w.heap.size (.int .i64 k) (.string sn) (.string so) (.slice a nv c) (.slice b np d) ∧ Blk wr q x y z u ∧ ∃ x' y' z' u', Blk wr (q + 1) x' y' z' u'
theorem list_bytes {x y : ByteArray} (h : ¬ x.data.toList = y.data.toList) : ¬ x = y := fun e => h (by rw [e])
theorem less_is (x y : ByteArray) : Op.bytesLess x.toList y.toList = decide (x.data.toList < y.data.toList) := by rw [bytesLess_eq, Lib.toList_data, Lib.toList_data]
theorem more_is (x y : ByteArray) : (!Op.bytesLess x.toList y.toList && !x.toList == y.toList) = decide (y.data.toList < x.data.toList) := by
  rw [less_is, Lib.toList_data, Lib.toList_data]
  rcases bytes_ord x.data.toList y.data.toList with ⟨h1, h2, h3⟩ | ⟨h1, h2⟩ | ⟨h1, h2, h3⟩
  · rw [decide_eq_true h2, decide_eq_false h3]; rfl
  · rw [h2]; simp
  · rw [decide_eq_true h2, decide_eq_false h3, show (x.data.toList == y.data.toList) = false from beq_eq_false_iff_ne.2 fun e => h3 (e ▸ h2)]; rfl
end Go.Proofs.Ytcajcmaldnmbjaa.Ev
/-
  Contract of the document's answer Holds: FTrue, FNot. Memory that was there is left as it was.
-/
namespace Go.Proofs.Ytcajcmaldnmbjaa.Ev
open Go.RowKit Go.Maps Go.Proofs.Ytcajcmaldnmbjaa.Fl Go.Proofs.Ytcajcmaldnmbjaa.Tk Go.Proofs.Ytcajcmaldnmbjaa.Ck
set_option linter.unusedVariables false
set_option linter.unusedSimpArgs false

set_option maxHeartbeats 16000000 in
set_option maxRecDepth 100000 in
theorem refH_simple (la : Option Addr) (l : List Att) (k : Int) (nm op : List UInt8) (vs : List Att) (ps : List Flt) (ih : ∀ q ∈ ps, RHOk la l q) (hk : k = 7 ∨ k = 3) : RHOk la l (.mk k nm op vs ps) := by
  intro a c b d lc w hF hA
  simp only [Flt.kind, Flt.name, Flt.op, Flt.vals, Flt.parts]
  obtain ⟨res, hres⟩ : ∃ r, r = holdsB l (.mk k nm op vs ps) := ⟨_, rfl⟩
  rw [← hres]
  rw [holdsB] at hres
  obtain ⟨sn, en, hsn⟩ := bs_bytes nm
  obtain ⟨so, eo, hso⟩ := bs_bytes op
  have hvs := hF.atts
  have hps := hF.parts
  have hsm := hF.small
  simp only [Flt.name, Flt.op, Flt.vals, Flt.parts] at hvs hps hsm
  obtain ⟨nv, hqv⟩ : ∃ x, x = vs.length := ⟨_, rfl⟩
  obtain ⟨np, hqp⟩ : ∃ x, x = ps.length := ⟨_, rfl⟩
  obtain ⟨n, hn⟩ : ∃ x, x = l.length := ⟨_, rfl⟩
  have HNV := Lib.hid hqv
  have HNP := Lib.hid hqp
  have HN := Lib.hid hn
  have hbig : np ≤ 9223372036854775807 := by have := hsm.2.2.2.2; unfold maxLen at this; omega
  have hbigv : nv ≤ 9223372036854775807 := by have := hvs.1; unfold maxLen at this; omega
  have hbign : n ≤ 9223372036854775807 := by have := hA.1; unfold maxLen at this; omega
  have HRES := Lib.hid hres
  have HVS := Lib.hid hvs
  have HPS := Lib.hid hps
  have HA := Lib.hid hA
  have HSN := Lib.hid hsn
  have HSO := Lib.hid hso
  have IH := Lib.hid ih
  rw [en, eo, ← hqv, ← hqp, ← hn]
  clear hvs hps hsm hqv hqp hn hres hF hA hsn hso en eo
  obtain ⟨w1, hw1⟩ : ∃ v, v = w.alloc (.cells #[.int .i64 k, .string sn, .string so, .slice a nv c, .slice b np d] 25) := ⟨_, rfl⟩
  have HB1 := Lib.hid (show Below w.heap.size w w1 by rw [hw1]; exact (Below.refl _ _).alloc (Nat.le_refl _) _)
  have X1 := Lib.hid (show Box w1 w.heap.size (.int .i64 k) (.string sn) (.string so) (.slice a nv c) (.slice b np d) by rw [hw1]; exact Box.new ..)
  have HW1 := Lib.hid hw1
  clear hw1
  obtain ⟨p0, p1, p2, p3, p4⟩ := X1.out
  by_cases h7 : k = 7
  · have HF := Lib.hid (show res = true by rw [HRES.out, if_pos h7])
    subst h7
    go_enter Try.func9, Try.ntmps9
    go_wp2_with fail
    rw [← HW1.out]
    go_wp2_with fail
    go_ret
    exact ⟨by rw [HF.out]; rfl, HB1.out⟩
  · have h3 : k = 3 := by rcases hk with h | h; exact absurd h h7; exact h
    by_cases hp0 : ps = []
    · have HF := Lib.hid (show res = false by rw [HRES.out, if_neg h7, if_pos h3, hp0]; rfl)
      subst h3
      obtain rfl : np = 0 := by rw [HNP.out, hp0]; rfl
      go_enter Try.func9, Try.ntmps9
      go_wp2_with fail
      rw [← HW1.out]
      go_wp2_with fail
      go_ret
      exact ⟨by rw [HF.out]; rfl, HB1.out⟩
    · have hpos : 0 < np := by rw [HNP.out]; exact List.length_pos_iff.2 hp0
      have hpz : (0 : Int) < (np : Int) := by omega
      have hpe : ¬ (np : Int) = 0 := by omega
      obtain ⟨U, R, hvr⟩ := List.exists_cons_of_ne_nil hp0
      have HF := Lib.hid (show res = !(holdsB l U) by rw [HRES.out, if_neg h7, if_pos h3, hvr]; rfl)
      obtain ⟨g, o, a1, c1, b1, d1, hg, hgl, h5, hf⟩ := HPS.out.get 0 (by rw [← HNP.out]; exact hpos)
      have hu0 : ps[0]'(by rw [← HNP.out]; exact hpos) = U := by simp only [hvr, List.getElem_cons_zero]
      rw [hu0] at h5 hf
      have CI := Lib.hid (ih U (by rw [hvr]; simp) a1 c1 b1 d1 lc w1 ((hf.later HB1.out).wide HB1.out.size) (attsFit HA.out HB1.out HB1.out.size))
      obtain ⟨un, hun, _⟩ := bs_bytes U.name
      obtain ⟨uo, huo, _⟩ := bs_bytes U.op
      obtain ⟨uk, huk⟩ : ∃ x, x = U.kind := ⟨_, rfl⟩
      obtain ⟨uv, huv⟩ : ∃ x, x = U.vals.length := ⟨_, rfl⟩
      obtain ⟨up, hup⟩ : ∃ x, x = U.parts.length := ⟨_, rfl⟩
      obtain ⟨e0, e1, e2, e3, e4⟩ := h5
      simp only [Nat.zero_add, Nat.zero_mul, Nat.add_zero] at e0 e1 e2 e3 e4
      rw [hun, huo, ← huk, ← huv, ← hup, ← HN.out] at CI
      rw [← huk] at e0
      rw [hun] at e1
      rw [huo] at e2
      rw [← huv] at e3
      rw [← hup] at e4
      have hb1 := (Below.refl w.heap.size w).alloc (Nat.le_refl _) (.cells #[.int .i64 k, .string sn, .string so, .slice a nv c, .slice b np d] 25)
      have e0 := (hb1.cell (p := ⟨g, o, none⟩) hgl).trans e0
      have e1 := (hb1.cell (p := ⟨g, o + 1, none⟩) hgl).trans e1
      have e2 := (hb1.cell (p := ⟨g, o + 2, none⟩) hgl).trans e2
      have e3 := (hb1.cell (p := ⟨g, o + 3, none⟩) hgl).trans e3
      have e4 := (hb1.cell (p := ⟨g, o + 4, none⟩) hgl).trans e4
      clear hb1
      subst h3
      subst hg
      obtain ⟨hu, hhu⟩ : ∃ x, x = holdsB l U := ⟨_, rfl⟩
      rw [← hhu] at CI HF
      clear hp0 hvr hu0 hun huo huk huv hup hf hgl h7 ih hhu
      go_enter Try.func9, Try.ntmps9
      go_wp2_with fail
      rw [← HW1.out]
      go_wp2_with fail
      refine Calls.mono CI.out ?_
      rintro e w3 ⟨rfl, hb⟩
      have HB3 := Lib.hid (HB1.out.trans (hb.mono HB1.out.size))
      clear hb
      go_wp2_with fail
      go_ret
      exact ⟨by rw [HF.out]; rfl, HB3.out⟩
end Go.Proofs.Ytcajcmaldnmbjaa.Ev
/-
  Contract of the document's answer Holds: FAnd, FOr. Memory that was there is left as it was.
-/
namespace Go.Proofs.Ytcajcmaldnmbjaa.Ev
open Go.RowKit Go.Maps Go.Proofs.Ytcajcmaldnmbjaa.Fl Go.Proofs.Ytcajcmaldnmbjaa.Tk Go.Proofs.Ytcajcmaldnmbjaa.Ck
set_option linter.unusedVariables false
set_option linter.unusedSimpArgs false

set_option maxHeartbeats 16000000 in
set_option maxRecDepth 100000 in
theorem refH_and (la : Option Addr) (l : List Att) (k : Int) (nm op : List UInt8) (vs : List Att) (ps : List Flt) (ih : ∀ q ∈ ps, RHOk la l q) (hk0 : k = 1) : RHOk la l (.mk k nm op vs ps) := by
  intro a c b d lc w hF hA
  simp only [Flt.kind, Flt.name, Flt.op, Flt.vals, Flt.parts]
  obtain ⟨res, hres⟩ : ∃ r, r = holdsB l (.mk k nm op vs ps) := ⟨_, rfl⟩
  rw [← hres]
  rw [holdsB] at hres
  obtain ⟨sn, en, hsn⟩ := bs_bytes nm
  obtain ⟨so, eo, hso⟩ := bs_bytes op
  have hvs := hF.atts
  have hps := hF.parts
  have hsm := hF.small
  simp only [Flt.name, Flt.op, Flt.vals, Flt.parts] at hvs hps hsm
  obtain ⟨nv, hqv⟩ : ∃ x, x = vs.length := ⟨_, rfl⟩
  obtain ⟨np, hqp⟩ : ∃ x, x = ps.length := ⟨_, rfl⟩
  obtain ⟨n, hn⟩ : ∃ x, x = l.length := ⟨_, rfl⟩
  have HNV := Lib.hid hqv
  have HNP := Lib.hid hqp
  have HN := Lib.hid hn
  have hbig : np ≤ 9223372036854775807 := by have := hsm.2.2.2.2; unfold maxLen at this; omega
  have hbigv : nv ≤ 9223372036854775807 := by have := hvs.1; unfold maxLen at this; omega
  have hbign : n ≤ 9223372036854775807 := by have := hA.1; unfold maxLen at this; omega
  have HRES := Lib.hid hres
  have HVS := Lib.hid hvs
  have HPS := Lib.hid hps
  have HA := Lib.hid hA
  have HSN := Lib.hid hsn
  have HSO := Lib.hid hso
  have IH := Lib.hid ih
  rw [en, eo, ← hqv, ← hqp, ← hn]
  clear hvs hps hsm hqv hqp hn hres hF hA hsn hso en eo
  obtain ⟨w1, hw1⟩ : ∃ v, v = w.alloc (.cells #[.int .i64 k, .string sn, .string so, .slice a nv c, .slice b np d] 25) := ⟨_, rfl⟩
  have HB1 := Lib.hid (show Below w.heap.size w w1 by rw [hw1]; exact (Below.refl _ _).alloc (Nat.le_refl _) _)
  have X1 := Lib.hid (show Box w1 w.heap.size (.int .i64 k) (.string sn) (.string so) (.slice a nv c) (.slice b np d) by rw [hw1]; exact Box.new ..)
  have HW1 := Lib.hid hw1
  clear hw1
  obtain ⟨p0, p1, p2, p3, p4⟩ := X1.out
  have HF := Lib.hid (show res = ps.all (holdsB l) by rw [HRES.out, if_neg (by omega), if_neg (by omega), if_pos hk0, allH_all])
  -- the parts, one behind the other
  subst hk0
  clear ih
  go_enter Try.func9, Try.ntmps9
  go_wp2_with fail
  rw [← HW1.out]
  go_loopw [6] (fun vi wr => RpR l true ps w1 vi wr) (fun vi _ => np - (intOf vi).toNat)
  case atStart => exact ⟨0, Nat.zero_le _, rfl, Lib.hid (by simp), Below.refl _ _⟩
  case round =>
    obtain ⟨j, hk, rfl, hall, hB⟩ := hrel
    have HK := Lib.hid hk
    have HBB := Lib.hid hB
    have HBW := Lib.hid (HB1.out.trans (hB.mono HB1.out.size))
    have X3 := Lib.hid (X1.out.later hB)
    clear hk hB p0 p1 p2 p3 p4
    obtain ⟨p0, p1, p2, p3, p4⟩ := X3.out
    by_cases hlt : j < np
    · have hlz : (j : Int) < (np : Int) := by omega
      have hku : j < ps.length := by rw [← HNP.out]; exact hlt
      obtain ⟨g, o', a1, c1, b1, d1, hg, hgl, h5, hf⟩ := (HPS.out.later HBW.out).get j hku
      obtain ⟨U, hU⟩ : ∃ V, V = ps[j] := ⟨_, rfl⟩
      rw [← hU] at h5 hf
      have HUK := Lib.hid (show ps[j]? = some U by rw [hU]; exact List.getElem?_eq_getElem hku)
      have CI := Lib.hid (IH.out U (List.mem_of_getElem? HUK.out) a1 c1 b1 d1 lc wr (hf.wide HBW.out.size) (attsFit HA.out HBW.out HBW.out.size))
      subst hg
      obtain ⟨e0, e1, e2, e3, e4⟩ := h5
      rw [Nat.zero_add] at e0 e1 e2 e3 e4
      obtain ⟨un, hun, _⟩ := bs_bytes U.name
      obtain ⟨uo, huo, _⟩ := bs_bytes U.op
      rw [hun] at e1
      rw [huo] at e2
      obtain ⟨uk, huk⟩ : ∃ x, x = U.kind := ⟨_, rfl⟩
      obtain ⟨uv, huv⟩ : ∃ x, x = U.vals.length := ⟨_, rfl⟩
      obtain ⟨up, hup⟩ : ∃ x, x = U.parts.length := ⟨_, rfl⟩
      rw [hun, huo, ← huk, ← huv, ← hup, ← HN.out] at CI
      rw [← huk] at e0
      rw [← huv] at e3
      rw [← hup] at e4
      obtain ⟨hu, hhu⟩ : ∃ x, x = holdsB l U := ⟨_, rfl⟩
      have HHU := Lib.hid hhu
      rw [← hhu] at CI
      clear hU hf hgl hun huo huk huv hup hhu
      cases hu with
      | true =>
        go_wp2_with fail
        refine Calls.mono CI.out ?_
        rintro e w5 ⟨rfl, hb⟩
        have HB5 := Lib.hid (HBB.out.trans (hb.mono HBB.out.size))
        have X5 := Lib.hid (X3.out.later hb)
        clear hb p0 p1 p2 p3 p4
        obtain ⟨p0, p1, p2, p3, p4⟩ := X5.out
        go_wp2_with fail
        go_roundw
        case rel => exact ⟨j + 1, by have := HNP.out; omega, by go_num, Lib.hid (all_more hall.out HUK.out HHU.out.symm), HB5.out⟩
        case measure => simp [intOf]; omega
      | false =>
        have HG := Lib.hid (show res = false by rw [HF.out]; exact allNo (List.mem_of_getElem? HUK.out) HHU.out.symm)
        go_wp2_with fail
        refine Calls.mono CI.out ?_
        rintro e w5 ⟨rfl, hb⟩
        have HB5 := Lib.hid (HBW.out.trans (hb.mono HBW.out.size))
        have X5 := Lib.hid (X3.out.later hb)
        clear hb p0 p1 p2 p3 p4
        obtain ⟨p0, p1, p2, p3, p4⟩ := X5.out
        go_wp2_with fail
        go_ret
        exact ⟨by rw [HG.out]; rfl, HB5.out⟩
    · have hlz : ¬ (j : Int) < (np : Int) := by omega
      have HG := Lib.hid (show res = true by
        rw [HF.out]
        refine allYes ?_
        have h := hall.out
        rw [show j = ps.length by have := HNP.out; have := HK.out; omega, List.take_length] at h
        exact h)
      go_wp2_with fail
      go_ret
      exact ⟨by rw [HG.out]; rfl, HBW.out⟩
set_option maxHeartbeats 16000000 in
set_option maxRecDepth 100000 in
theorem refH_or (la : Option Addr) (l : List Att) (k : Int) (nm op : List UInt8) (vs : List Att) (ps : List Flt) (ih : ∀ q ∈ ps, RHOk la l q) (hk0 : k = 2) : RHOk la l (.mk k nm op vs ps) := by
  intro a c b d lc w hF hA
  simp only [Flt.kind, Flt.name, Flt.op, Flt.vals, Flt.parts]
  obtain ⟨res, hres⟩ : ∃ r, r = holdsB l (.mk k nm op vs ps) := ⟨_, rfl⟩
  rw [← hres]
  rw [holdsB] at hres
  obtain ⟨sn, en, hsn⟩ := bs_bytes nm
  obtain ⟨so, eo, hso⟩ := bs_bytes op
  have hvs := hF.atts
  have hps := hF.parts
  have hsm := hF.small
  simp only [Flt.name, Flt.op, Flt.vals, Flt.parts] at hvs hps hsm
  obtain ⟨nv, hqv⟩ : ∃ x, x = vs.length := ⟨_, rfl⟩
  obtain ⟨np, hqp⟩ : ∃ x, x = ps.length := ⟨_, rfl⟩
  obtain ⟨n, hn⟩ : ∃ x, x = l.length := ⟨_, rfl⟩
  have HNV := Lib.hid hqv
  have HNP := Lib.hid hqp
  have HN := Lib.hid hn
  have hbig : np ≤ 9223372036854775807 := by have := hsm.2.2.2.2; unfold maxLen at this; omega
  have hbigv : nv ≤ 9223372036854775807 := by have := hvs.1; unfold maxLen at this; omega
  have hbign : n ≤ 9223372036854775807 := by have := hA.1; unfold maxLen at this; omega
  have HRES := Lib.hid hres
  have HVS := Lib.hid hvs
  have HPS := Lib.hid hps
  have HA := Lib.hid hA
  have HSN := Lib.hid hsn
  have HSO := Lib.hid hso
  have IH := Lib.hid ih
  rw [en, eo, ← hqv, ← hqp, ← hn]
  clear hvs hps hsm hqv hqp hn hres hF hA hsn hso en eo
  obtain ⟨w1, hw1⟩ : ∃ v, v = w.alloc (.cells #[.int .i64 k, .string sn, .string so, .slice a nv c, .slice b np d] 25) := ⟨_, rfl⟩
  have HB1 := Lib.hid (show Below w.heap.size w w1 by rw [hw1]; exact (Below.refl _ _).alloc (Nat.le_refl _) _)
  have X1 := Lib.hid (show Box w1 w.heap.size (.int .i64 k) (.string sn) (.string so) (.slice a nv c) (.slice b np d) by rw [hw1]; exact Box.new ..)
  have HW1 := Lib.hid hw1
  clear hw1
  obtain ⟨p0, p1, p2, p3, p4⟩ := X1.out
  have HF := Lib.hid (show res = ps.any (holdsB l) by rw [HRES.out, if_neg (by omega), if_neg (by omega), if_neg (by omega), if_pos hk0, anyH_any])
  -- the parts, one behind the other
  subst hk0
  clear ih
  go_enter Try.func9, Try.ntmps9
  go_wp2_with fail
  rw [← HW1.out]
  go_loopw [6] (fun vi wr => RpR l false ps w1 vi wr) (fun vi _ => np - (intOf vi).toNat)
  case atStart => exact ⟨0, Nat.zero_le _, rfl, Lib.hid (by simp), Below.refl _ _⟩
  case round =>
    obtain ⟨j, hk, rfl, hall, hB⟩ := hrel
    have HK := Lib.hid hk
    have HBB := Lib.hid hB
    have HBW := Lib.hid (HB1.out.trans (hB.mono HB1.out.size))
    have X3 := Lib.hid (X1.out.later hB)
    clear hk hB p0 p1 p2 p3 p4
    obtain ⟨p0, p1, p2, p3, p4⟩ := X3.out
    by_cases hlt : j < np
    · have hlz : (j : Int) < (np : Int) := by omega
      have hku : j < ps.length := by rw [← HNP.out]; exact hlt
      obtain ⟨g, o', a1, c1, b1, d1, hg, hgl, h5, hf⟩ := (HPS.out.later HBW.out).get j hku
      obtain ⟨U, hU⟩ : ∃ V, V = ps[j] := ⟨_, rfl⟩
      rw [← hU] at h5 hf
      have HUK := Lib.hid (show ps[j]? = some U by rw [hU]; exact List.getElem?_eq_getElem hku)
      have CI := Lib.hid (IH.out U (List.mem_of_getElem? HUK.out) a1 c1 b1 d1 lc wr (hf.wide HBW.out.size) (attsFit HA.out HBW.out HBW.out.size))
      subst hg
      obtain ⟨e0, e1, e2, e3, e4⟩ := h5
      rw [Nat.zero_add] at e0 e1 e2 e3 e4
      obtain ⟨un, hun, _⟩ := bs_bytes U.name
      obtain ⟨uo, huo, _⟩ := bs_bytes U.op
      rw [hun] at e1
      rw [huo] at e2
      obtain ⟨uk, huk⟩ : ∃ x, x = U.kind := ⟨_, rfl⟩
      obtain ⟨uv, huv⟩ : ∃ x, x = U.vals.length := ⟨_, rfl⟩
      obtain ⟨up, hup⟩ : ∃ x, x = U.parts.length := ⟨_, rfl⟩
      rw [hun, huo, ← huk, ← huv, ← hup, ← HN.out] at CI
      rw [← huk] at e0
      rw [← huv] at e3
      rw [← hup] at e4
      obtain ⟨hu, hhu⟩ : ∃ x, x = holdsB l U := ⟨_, rfl⟩
      have HHU := Lib.hid hhu
      rw [← hhu] at CI
      clear hU hf hgl hun huo huk huv hup hhu
      cases hu with
      | false =>
        go_wp2_with fail
        refine Calls.mono CI.out ?_
        rintro e w5 ⟨rfl, hb⟩
        have HB5 := Lib.hid (HBB.out.trans (hb.mono HBB.out.size))
        have X5 := Lib.hid (X3.out.later hb)
        clear hb p0 p1 p2 p3 p4
        obtain ⟨p0, p1, p2, p3, p4⟩ := X5.out
        go_wp2_with fail
        go_roundw
        case rel => exact ⟨j + 1, by have := HNP.out; omega, by go_num, Lib.hid (all_more hall.out HUK.out HHU.out.symm), HB5.out⟩
        case measure => simp [intOf]; omega
      | true =>
        have HG := Lib.hid (show res = true by rw [HF.out]; exact anyYes (List.mem_of_getElem? HUK.out) HHU.out.symm)
        go_wp2_with fail
        refine Calls.mono CI.out ?_
        rintro e w5 ⟨rfl, hb⟩
        have HB5 := Lib.hid (HBW.out.trans (hb.mono HBW.out.size))
        have X5 := Lib.hid (X3.out.later hb)
        clear hb p0 p1 p2 p3 p4
        obtain ⟨p0, p1, p2, p3, p4⟩ := X5.out
        go_wp2_with fail
        go_ret
        exact ⟨by rw [HG.out]; rfl, HB5.out⟩
    · have hlz : ¬ (j : Int) < (np : Int) := by omega
      have HG := Lib.hid (show res = false by
        rw [HF.out]
        refine anyNo ?_
        have h := hall.out
        rw [show j = ps.length by have := HNP.out; have := HK.out; omega, List.take_length] at h
        exact h)
      go_wp2_with fail
      go_ret
      exact ⟨by rw [HG.out]; rfl, HBW.out⟩
end Go.Proofs.Ytcajcmaldnmbjaa.Ev
/-
  Contract of the document's answer Holds: FCmp, FPre, FIn, and no kind. Memory that was there is left as it was.
-/
namespace Go.Proofs.Ytcajcmaldnmbjaa.Ev
open Go.RowKit Go.Maps Go.Proofs.Ytcajcmaldnmbjaa.Fl Go.Proofs.Ytcajcmaldnmbjaa.Tk Go.Proofs.Ytcajcmaldnmbjaa.Ck
set_option linter.unusedVariables false
set_option linter.unusedSimpArgs false

set_option maxHeartbeats 16000000 in
set_option maxRecDepth 100000 in
theorem refH_leaf (la : Option Addr) (l : List Att) (k : Int) (nm op : List UInt8) (vs : List Att) (ps : List Flt) (ih : ∀ q ∈ ps, RHOk la l q) (h7 : ¬ k = 7) (h3 : ¬ k = 3) (h1 : ¬ k = 1) (h2 : ¬ k = 2) : RHOk la l (.mk k nm op vs ps) := by
  intro a c b d lc w hF hA
  simp only [Flt.kind, Flt.name, Flt.op, Flt.vals, Flt.parts]
  obtain ⟨res, hres⟩ : ∃ r, r = holdsB l (.mk k nm op vs ps) := ⟨_, rfl⟩
  rw [← hres]
  rw [holdsB] at hres
  obtain ⟨sn, en, hsn⟩ := bs_bytes nm
  obtain ⟨so, eo, hso⟩ := bs_bytes op
  have hvs := hF.atts
  have hps := hF.parts
  have hsm := hF.small
  simp only [Flt.name, Flt.op, Flt.vals, Flt.parts] at hvs hps hsm
  obtain ⟨nv, hqv⟩ : ∃ x, x = vs.length := ⟨_, rfl⟩
  obtain ⟨np, hqp⟩ : ∃ x, x = ps.length := ⟨_, rfl⟩
  obtain ⟨n, hn⟩ : ∃ x, x = l.length := ⟨_, rfl⟩
  have HNV := Lib.hid hqv
  have HNP := Lib.hid hqp
  have HN := Lib.hid hn
  have hbig : np ≤ 9223372036854775807 := by have := hsm.2.2.2.2; unfold maxLen at this; omega
  have hbigv : nv ≤ 9223372036854775807 := by have := hvs.1; unfold maxLen at this; omega
  have hbign : n ≤ 9223372036854775807 := by have := hA.1; unfold maxLen at this; omega
  have HRES := Lib.hid hres
  have HVS := Lib.hid hvs
  have HPS := Lib.hid hps
  have HA := Lib.hid hA
  have HSN := Lib.hid hsn
  have HSO := Lib.hid hso
  have IH := Lib.hid ih
  rw [en, eo, ← hqv, ← hqp, ← hn]
  clear hvs hps hsm hqv hqp hn hres hF hA hsn hso en eo
  obtain ⟨w1, hw1⟩ : ∃ v, v = w.alloc (.cells #[.int .i64 k, .string sn, .string so, .slice a nv c, .slice b np d] 25) := ⟨_, rfl⟩
  have HB1 := Lib.hid (show Below w.heap.size w w1 by rw [hw1]; exact (Below.refl _ _).alloc (Nat.le_refl _) _)
  have X1 := Lib.hid (show Box w1 w.heap.size (.int .i64 k) (.string sn) (.string so) (.slice a nv c) (.slice b np d) by rw [hw1]; exact Box.new ..)
  have HW1 := Lib.hid hw1
  clear hw1
  obtain ⟨p0, p1, p2, p3, p4⟩ := X1.out
  have HF := Lib.hid (show res = (match attOf l nm with | none => false | some a => ofH k op vs a) by rw [HRES.out, if_neg h7, if_neg h3, if_neg h1, if_neg h2, leaf_of]; cases attOf l nm <;> rfl)
  clear ih IH
  go_enter Try.func9, Try.ntmps9
  go_wp2_with fail
  rw [← HW1.out]
  go_loopw [8, 9] (fun va vi wr => RsR l nm w1 va vi wr) (fun _ vi _ => (intOf vi + 1).toNat)
  case atStart =>
    refine ⟨n, by rw [HN.out]; exact Nat.le_refl _, rfl, ?_, Below.refl _ _⟩
    rw [HN.out, List.drop_length]
    rfl
  case round =>
    obtain ⟨m, hm, rfl, rfl, hB⟩ := hrel
    have HM := Lib.hid hm
    have HBB := Lib.hid hB
    have HBW := Lib.hid (HB1.out.trans (hB.mono HB1.out.size))
    have X3 := Lib.hid (X1.out.later hB)
    clear hm hB p0 p1 p2 p3 p4
    obtain ⟨p0, p1, p2, p3, p4⟩ := X3.out
    cases m with
    | succ i =>
      have hi : ((i + 1 : Nat) : Int) - 1 = (i : Int) := by omega
      rw [hi]
      have hin : i < n := by have := HM.out; have := HN.out; omega
      have hiz : (i : Int) < (n : Int) := by omega
      have hil : i < l.length := by rw [← HN.out]; exact hin
      obtain ⟨g, o, hg, hgl, hc⟩ := (HA.out.later HBW.out).2.2 (by omega)
      obtain ⟨c0, -, -, -⟩ := hc i hil
      obtain ⟨V, hV⟩ : ∃ V, V = l[i] := ⟨_, rfl⟩
      rw [← hV] at c0
      have HVK := Lib.hid (show l.drop i = V :: l.drop (i + 1) by rw [hV]; exact List.drop_eq_getElem_cons hil)
      obtain ⟨s1, e1, hs1⟩ := bs_bytes V.name
      rw [e1] at c0
      subst hg
      have HS1 := Lib.hid hs1
      obtain ⟨pz, hpz⟩ : ∃ z, z = posI (i + 1) (l.drop (i + 1)) nm := ⟨_, rfl⟩
      have HPZ := Lib.hid hpz
      rw [← hpz]
      clear hV e1 hi hs1 hgl hc hpz
      by_cases he : s1.data.toList = sn.data.toList
      · obtain rfl := eq_list he
        have HE := Lib.hid (show posI i (l.drop i) nm = (i : Int) by rw [HVK.out, posI, if_pos (by rw [← HS1.out, HSN.out])])
        clear he
        go_wp2_with fail
        go_quiet (fail)
        go_wp2_with fail
        go_roundw
        case rel => exact ⟨i, by have := HM.out; omega, by go_num, by rw [HE.out], below_drewN HBB.out _⟩
        case measure => simp [intOf]
      · obtain ⟨q0, q1, q2⟩ := ne_list he
        have HE := Lib.hid (show posI i (l.drop i) nm = pz by rw [HVK.out, posI, if_neg (by rw [← HS1.out, ← HSN.out]; exact he), HPZ.out])
        clear he
        go_wp2_with fail
        go_quiet (fail)
        go_wp2_with fail
        go_roundw
        case rel => exact ⟨i, by have := HM.out; omega, by go_num, by rw [HE.out], below_drewN HBB.out _⟩
        case measure => simp [intOf]
    | zero =>
      obtain ⟨pz, hpz⟩ : ∃ z, z = posI 0 (l.drop 0) nm := ⟨_, rfl⟩
      rw [← hpz]
      rcases posI_cases 0 l nm with ⟨h0, hno⟩ | ⟨i, A, hi, hat, h0⟩
      · have HG := Lib.hid (show res = false by rw [HF.out, hno])
        rw [List.drop_zero, h0] at hpz
        subst hpz
        clear h0 hno
        go_wp2_with fail
        go_ret
        exact ⟨by rw [HG.out]; rfl, HBW.out⟩
      · have HG := Lib.hid (show res = ofH k op vs A by rw [HF.out, hat])
        rw [List.drop_zero, h0, Nat.zero_add] at hpz
        subst hpz
        by_cases hv0 : vs = []
        · have HG2 := Lib.hid (show res = false by rw [HG.out, hv0]; rfl)
          obtain rfl : nv = 0 := by rw [HNV.out, hv0]; rfl
          clear h0 hat hi hv0
          go_wp2_with fail
          go_ret
          exact ⟨by rw [HG2.out]; rfl, HBW.out⟩
        · have hpos : 0 < nv := by rw [HNV.out]; exact List.length_pos_iff.2 hv0
          have hpz : (0 : Int) < (nv : Int) := by omega
          have hpe : ¬ (nv : Int) = 0 := by omega
          have hi0 : ¬ (i : Int) < 0 := by omega
          have hil : i < l.length := (List.getElem?_eq_some_iff.1 hi).1
          have hie : l[i] = A := (List.getElem?_eq_some_iff.1 hi).2
          have hin : i < n := by rw [HN.out]; exact hil
          have hiz : (i : Int) < (n : Int) := by omega
          obtain ⟨g, o, hg, hgl, hc⟩ := (HA.out.later HBW.out).2.2 (by omega)
          obtain ⟨c0, c1, c2, c3⟩ := hc i hil
          rw [hie] at c0 c1 c2 c3
          obtain ⟨an, e0, han⟩ := bs_bytes A.name
          obtain ⟨ax, e3, hax⟩ := bs_bytes A.str
          obtain ⟨at', hat'⟩ : ∃ x, x = A.text := ⟨_, rfl⟩
          obtain ⟨ai, hai⟩ : ∃ x, x = A.num := ⟨_, rfl⟩
          rw [e0] at c0
          rw [← hat'] at c1
          rw [← hai] at c2
          rw [e3] at c3
          have HAA := Lib.hid (show A = AttL an at' ai ax by unfold AttL; rw [han, hax, hat', hai])
          subst hg
          obtain ⟨V, R, hvr⟩ := List.exists_cons_of_ne_nil hv0
          have HVR := Lib.hid hvr
          obtain ⟨g2, o2, hg2, hgl2, hc2⟩ := (HVS.out.later HBW.out).2.2 (by rw [← HNV.out]; exact hpos)
          obtain ⟨d0, d1, d2, d3⟩ := hc2 0 (by rw [← HNV.out]; exact hpos)
          simp only [hvr, List.getElem_cons_zero, Nat.zero_mul, Nat.add_zero] at d0 d1 d2 d3
          obtain ⟨vn, f0, hvn⟩ := bs_bytes V.name
          obtain ⟨vx, f3, hvx⟩ := bs_bytes V.str
          obtain ⟨vt, hvt⟩ : ∃ x, x = V.text := ⟨_, rfl⟩
          obtain ⟨vi, hvi⟩ : ∃ x, x = V.num := ⟨_, rfl⟩
          rw [f0] at d0
          rw [← hvt] at d1
          rw [← hvi] at d2
          rw [f3] at d3
          have HVV := Lib.hid (show V = AttL vn vt vi vx by unfold AttL; rw [hvn, hvx, hvt, hvi])
          subst hg2
          have hgw : g < wr.heap.size := Nat.lt_of_lt_of_le hgl HBW.out.size
          have hgw2 : g2 < wr.heap.size := Nat.lt_of_lt_of_le hgl2 HBW.out.size
          have hww : w.heap.size < wr.heap.size := X3.out.lt
          have d0 := (Below.refl wr.heap.size wr |>.alloc (Nat.le_refl _) (.cells #[.string an, .bool at', .int .i64 ai, .string ax] 31) |>.cell (p := ⟨g2, o2, none⟩) hgw2).trans d0
          have d1 := (Below.refl wr.heap.size wr |>.alloc (Nat.le_refl _) (.cells #[.string an, .bool at', .int .i64 ai, .string ax] 31) |>.cell (p := ⟨g2, o2 + 1, none⟩) hgw2).trans d1
          have d2 := (Below.refl wr.heap.size wr |>.alloc (Nat.le_refl _) (.cells #[.string an, .bool at', .int .i64 ai, .string ax] 31) |>.cell (p := ⟨g2, o2 + 2, none⟩) hgw2).trans d2
          have d3 := (Below.refl wr.heap.size wr |>.alloc (Nat.le_refl _) (.cells #[.string an, .bool at', .int .i64 ai, .string ax] 31) |>.cell (p := ⟨g2, o2 + 3, none⟩) hgw2).trans d3
          clear h0 hat hi hv0 hie hc e0 e3 han hax hat' hai hvr hc2 f0 f3 hvn hvx hvt hvi hgl hgl2
          obtain ⟨w5, hw5⟩ : ∃ v, v = wr.alloc (.cells #[.string an, .bool at', .int .i64 ai, .string ax] 31) := ⟨_, rfl⟩
          have hs5 : w5.heap.size = wr.heap.size + 1 := by rw [hw5]; simp
          have HB5 := Lib.hid (show Below wr.heap.size wr w5 by rw [hw5]; exact (Below.refl _ _).alloc (Nat.le_refl _) _)
          have Z5 := Lib.hid (show Blk w5 wr.heap.size (.string an) (.bool at') (.int .i64 ai) (.string ax) by rw [hw5]; exact Blk.new ..)
          have HW5 := Lib.hid hw5
          skip
          obtain ⟨w6, hw6⟩ : ∃ v, v = w5.alloc (.cells #[.string vn, .bool vt, .int .i64 vi, .string vx] 31) := ⟨_, rfl⟩
          have HB56 := Lib.hid (show Below w5.heap.size w5 w6 by rw [hw6]; exact (Below.refl _ _).alloc (Nat.le_refl _) _)
          have HB36 := Lib.hid (HB5.out.trans (HB56.out.mono HB5.out.size))
          have HB6 := Lib.hid (HBW.out.trans (HB36.out.mono HBW.out.size))
          have Y6 := Lib.hid (show Blk w6 (wr.heap.size + 1) (.string vn) (.bool vt) (.int .i64 vi) (.string vx) by rw [hw6, ← hs5]; exact Blk.new ..)
          have Z6 := Lib.hid (Z5.out.later HB56.out)
          have X6 := Lib.hid (X3.out.later HB36.out)
          have HW6 := Lib.hid hw6
          have hs6 : w6.heap.size = wr.heap.size + 2 := by rw [hw6]; simp [hs5]
          clear hw5 hw6 hs5
          by_cases h4 : k = 4
          · subst h4
            by_cases htt : at' = vt
            · subst htt
              cases at' with
              | true =>
                have HG2 := Lib.hid (show res = standsB so.data.toList (Op.bytesLess ax.toList vx.toList) (!Op.bytesLess ax.toList vx.toList && !ax.toList == vx.toList) by
                  rw [HG.out, HVR.out, HAA.out, HVV.out, HSO.out, more_is, less_is]
                  simp [ofH, cmpV, AttL])
                go_wp2_with fail
                rw [← HW5.out, ← HW6.out]
                refine Calls.mono (refStands_any so _ _ _) ?_
                rintro e w7 ⟨rfl, rfl⟩
                go_wp2_with fail
                go_ret
                exact ⟨by rw [HG2.out]; rfl, HB6.out⟩
              | false =>
                have HG2 := Lib.hid (show res = standsB so.data.toList (decide (ai < vi)) (decide (vi < ai)) by
                  rw [HG.out, HVR.out, HAA.out, HVV.out, HSO.out]
                  simp [ofH, cmpV, AttL]
                  rfl)
                go_wp2_with fail
                rw [← HW5.out, ← HW6.out]
                refine Calls.mono (refStands_any so _ _ _) ?_
                rintro e w7 ⟨rfl, rfl⟩
                go_wp2_with fail
                go_ret
                exact ⟨by rw [HG2.out]; rfl, HB6.out⟩
            · have hq : (at' == vt) = false := by simpa using htt
              have HG2 := Lib.hid (show res = false by
                rw [HG.out, HVR.out, HAA.out, HVV.out]
                simp [ofH, cmpV, AttL, htt])
              go_wp2_with fail
              rw [← HW5.out, ← HW6.out]
              obtain ⟨y0, y1, y2, y3, y4⟩ := X6.out
              refine wp_loop_rounds 1 ?_
              rw [rounds_succ]
              go_wp2_with fail
              go_ret
              exact ⟨by rw [HG2.out]; rfl, HB6.out⟩
          · by_cases h5 : k = 5
            · subst h5
              by_cases hbt : at' = true ∧ vt = true
              · obtain ⟨rfl, rfl⟩ := hbt
                have HG2 := Lib.hid (show res = vx.data.toList.isPrefixOf ax.data.toList by
                  rw [HG.out, HVR.out, HAA.out, HVV.out]
                  simp [ofH, preV, AttL])
                obtain ⟨r, hr⟩ : ∃ r, r = vx.data.toList.isPrefixOf ax.data.toList := ⟨_, rfl⟩
                have CB := Lib.hid (fun W => refBegins_any ax vx W)
                rw [← hr] at CB HG2
                clear hr
                go_wp2_with fail
                rw [← HW5.out, ← HW6.out]
                refine Calls.mono (CB.out _) ?_
                rintro e w7 ⟨rfl, rfl⟩
                go_wp2_with fail
                go_ret
                exact ⟨by rw [HG2.out]; rfl, HB6.out⟩
              · have HG2 := Lib.hid (show res = false by
                  rw [HG.out, HVR.out, HAA.out, HVV.out]
                  simp [ofH, preV, AttL]
                  intro z1 z2
                  exact absurd ⟨z1, z2⟩ hbt)
                cases at' <;> cases vt
                · go_wp2_with fail
                  rw [← HW5.out, ← HW6.out]
                  obtain ⟨y0, y1, y2, y3, y4⟩ := X6.out
                  refine wp_loop_rounds 1 ?_
                  rw [rounds_succ]
                  go_wp2_with fail
                  go_ret
                  exact ⟨by rw [HG2.out]; rfl, HB6.out⟩
                · go_wp2_with fail
                  rw [← HW5.out, ← HW6.out]
                  obtain ⟨y0, y1, y2, y3, y4⟩ := X6.out
                  refine wp_loop_rounds 1 ?_
                  rw [rounds_succ]
                  go_wp2_with fail
                  go_ret
                  exact ⟨by rw [HG2.out]; rfl, HB6.out⟩
                · go_wp2_with fail
                  rw [← HW5.out, ← HW6.out]
                  obtain ⟨y0, y1, y2, y3, y4⟩ := X6.out
                  refine wp_loop_rounds 1 ?_
                  rw [rounds_succ]
                  go_wp2_with fail
                  go_ret
                  exact ⟨by rw [HG2.out]; rfl, HB6.out⟩
                · exact absurd ⟨rfl, rfl⟩ hbt
            · by_cases h6 : k = 6
              · subst h6
                have HG2 := Lib.hid (show res = vs.any (sameV A) by rw [HG.out, HVR.out]; rfl)
                go_wp2_with fail
                rw [← HW5.out, ← HW6.out]
                obtain ⟨q, hq⟩ : ∃ q, q = wr.heap.size := ⟨_, rfl⟩
                rw [← hq] at Z6 Y6 hww ⊢
                clear hq hgw hgw2 hs6 p0 p1 p2 p3 p4 c0 c1 c2 c3 d0 d1 d2 d3
                go_loopw [12] (fun vj wq => RvR A vs w w6 6 sn so (some ⟨g2, o2, none⟩) nv c b np d (.string an) (.bool at') (.int .i64 ai) (.string ax) q vj wq) (fun vj _ => nv - (intOf vj).toNat)
                case atStart => exact ⟨0, Nat.zero_le _, rfl, Lib.hid (by simp), HB6.out, X6.out, Z6.out, _, _, _, _, Y6.out⟩
                case round =>
                  obtain ⟨j, hk, rfl, hall, hB, hX, hZ, x', y', z', u', hY⟩ := hrel
                  have HK := Lib.hid hk
                  have HBQ := Lib.hid hB
                  have XQ := Lib.hid hX
                  have ZQ := Lib.hid hZ
                  have YQ := Lib.hid hY
                  have HALL := Lib.hid hall.out
                  clear hk hB hall
                  obtain ⟨p0, p1, p2, p3, p4⟩ := hX
                  obtain ⟨z0, z1, z2, z3, -, -⟩ := hZ
                  obtain ⟨y0, y1, y2, y3, yf, -⟩ := hY
                  have yf0 := yf 0
                  have yf1 := yf 1
                  have yf2 := yf 2
                  have yf3 := yf 3
                  clear yf
                  have HSET := Lib.hid (fun v0 v1 v2 v3 => And.intro (set4 HBQ.out (show w.heap.size ≤ q + 1 by omega) v0 v1 v2 v3) (And.intro (XQ.out.same (set4_heap wr (q + 1) w.heap.size v0 v1 v2 v3 (by omega))) (And.intro (Blk.same ZQ.out (set4_heap wr (q + 1) q v0 v1 v2 v3 (by omega)) (Nat.le_of_eq (set4_size wr (q + 1) v0 v1 v2 v3).symm)) (Blk.put YQ.out v0 v1 v2 v3))))
                  by_cases hlt : j < nv
                  · have hlz : (j : Int) < (nv : Int) := by omega
                    have hjl : j < vs.length := by rw [← HNV.out]; exact hlt
                    obtain ⟨g', o', hg', hgl', hc'⟩ := (HVS.out.later HBQ.out).2.2 (by omega)
                    cases hg'
                    obtain ⟨d0, d1, d2, d3⟩ := hc' j hjl
                    obtain ⟨U, hU⟩ : ∃ V, V = vs[j] := ⟨_, rfl⟩
                    rw [← hU] at d0 d1 d2 d3
                    have HUK := Lib.hid (show vs[j]? = some U by rw [hU]; exact List.getElem?_eq_getElem hjl)
                    obtain ⟨un, f0, hun⟩ := bs_bytes U.name
                    obtain ⟨ux, f3, hux⟩ := bs_bytes U.str
                    obtain ⟨ut, hut⟩ : ∃ x, x = U.text := ⟨_, rfl⟩
                    obtain ⟨ui, hui⟩ : ∃ x, x = U.num := ⟨_, rfl⟩
                    rw [f0] at d0
                    rw [← hut] at d1
                    rw [← hui] at d2
                    rw [f3] at d3
                    have HUU := Lib.hid (show U = AttL un ut ui ux by unfold AttL; rw [hun, hux, hut, hui])
                    have hg2q : g2 < q := Nat.lt_of_lt_of_le hgl' (Nat.le_of_lt hww)
                    clear hc' hU f0 f3 hun hux hut hui hgl'
                    by_cases htt : at' = ut
                    · subst htt
                      cases at' with
                      | true =>
                        by_cases hs : ax.data.toList = ux.data.toList
                        · obtain rfl := eq_list hs
                          have HF2 := Lib.hid (show res = true by rw [HG2.out, List.any_eq_true]; exact ⟨U, List.mem_of_getElem? HUK.out, by rw [HAA.out, HUU.out]; simp [sameV, AttL]⟩)
                          clear hs
                          go_wp2_with fail
                          go_ret
                          exact ⟨by rw [HF2.out]; rfl, (HSET.out _ _ _ _).1⟩
                        · obtain ⟨r0, r1, r2⟩ := ne_list hs
                          have HF2 := Lib.hid (none_more HALL.out HUK.out (show sameV A U = false by rw [HAA.out, HUU.out]; simp [sameV, AttL, show ¬ ax.data = ux.data from fun e => hs (by rw [e])]))
                          clear hs
                          go_wp2_with fail
                          go_roundw
                          case rel => exact ⟨j + 1, by have := HNV.out; omega, by go_num, HF2, (HSET.out _ _ _ _).1, (HSET.out _ _ _ _).2.1, (HSET.out _ _ _ _).2.2.1, _, _, _, _, (HSET.out _ _ _ _).2.2.2⟩
                          case measure => simp [intOf]; omega
                      | false =>
                        by_cases hs : ai = ui
                        · subst hs
                          have HF2 := Lib.hid (show res = true by rw [HG2.out, List.any_eq_true]; exact ⟨U, List.mem_of_getElem? HUK.out, by rw [HAA.out, HUU.out]; simp [sameV, AttL]⟩)
                          go_wp2_with fail
                          go_ret
                          exact ⟨by rw [HF2.out]; rfl, (HSET.out _ _ _ _).1⟩
                        · have HF2 := Lib.hid (none_more HALL.out HUK.out (show sameV A U = false by rw [HAA.out, HUU.out]; simp [sameV, AttL, hs]))
                          have hsq : (ai == ui) = false := by simpa using hs
                          go_wp2_with fail
                          go_roundw
                          case rel => exact ⟨j + 1, by have := HNV.out; omega, by go_num, HF2, (HSET.out _ _ _ _).1, (HSET.out _ _ _ _).2.1, (HSET.out _ _ _ _).2.2.1, _, _, _, _, (HSET.out _ _ _ _).2.2.2⟩
                          case measure => simp [intOf]; omega
                    · have hq2 : (at' == ut) = false := by simpa using htt
                      have HF2 := Lib.hid (none_more HALL.out HUK.out (show sameV A U = false by rw [HAA.out, HUU.out]; simp [sameV, AttL, htt]))
                      go_wp2_with fail
                      go_roundw
                      case rel => exact ⟨j + 1, by have := HNV.out; omega, by go_num, HF2, (HSET.out _ _ _ _).1, (HSET.out _ _ _ _).2.1, (HSET.out _ _ _ _).2.2.1, _, _, _, _, (HSET.out _ _ _ _).2.2.2⟩
                      case measure => simp [intOf]; omega
                  · have hlz : ¬ (j : Int) < (nv : Int) := by omega
                    have HF2 := Lib.hid (show res = false by
                      have h := HALL.out
                      rw [show j = vs.length by have := HNV.out; have := HK.out; omega, List.take_length] at h
                      rw [HG2.out, List.any_eq_false]
                      exact fun x hx => by rw [h x hx]; simp)
                    go_wp2_with fail
                    go_ret
                    exact ⟨by rw [HF2.out]; rfl, HBQ.out⟩
              · have HG2 := Lib.hid (show res = false by rw [HG.out, HVR.out]; show (if k = 4 then _ else if k = 5 then _ else if k = 6 then _ else false) = false; rw [if_neg h4, if_neg h5, if_neg h6])
                go_wp2_with fail
                rw [← HW5.out, ← HW6.out]
                obtain ⟨y0, y1, y2, y3, y4⟩ := X6.out
                refine wp_loop_rounds 1 ?_
                rw [rounds_succ]
                go_wp2_with fail
                go_ret
                exact ⟨by rw [HG2.out]; rfl, HB6.out⟩
end Go.Proofs.Ytcajcmaldnmbjaa.Ev
/-
  Contract of the document's answer Holds: does a filter hold of attributes? Memory that was there is left as it was.
-/
namespace Go.Proofs.Ytcajcmaldnmbjaa.Ev
open Go.RowKit Go.Maps Go.Proofs.Ytcajcmaldnmbjaa.Fl Go.Proofs.Ytcajcmaldnmbjaa.Tk Go.Proofs.Ytcajcmaldnmbjaa.Ck
set_option linter.unusedVariables false
set_option linter.unusedSimpArgs false

theorem refHolds_ok (la : Option Addr) (l : List Att) (f : Flt) (ih : ∀ q ∈ f.parts, RHOk la l q) : RHOk la l f := by
  obtain ⟨k, nm, op, vs, ps⟩ := f
  by_cases h7 : k = 7
  · exact refH_simple la l k nm op vs ps ih (.inl h7)
  · by_cases h3 : k = 3
    · exact refH_simple la l k nm op vs ps ih (.inr h3)
    · by_cases h1 : k = 1
      · exact refH_and la l k nm op vs ps ih h1
      · by_cases h2 : k = 2
        · exact refH_or la l k nm op vs ps ih h2
        · exact refH_leaf la l k nm op vs ps ih h7 h3 h1 h2
theorem refHolds_all (la : Option Addr) (l : List Att) : ∀ (N : Nat) (f : Flt), sz f ≤ N → RHOk la l f
  | 0, f, h => by have := sz_pos f; omega
  | N + 1, f, h => refHolds_ok la l f fun q hq => refHolds_all la l N q (by
      cases f
      simp only [Flt.parts] at hq
      have := sz_mem hq
      rw [sz] at h
      omega)
end Go.Proofs.Ytcajcmaldnmbjaa.Ev
/-
  Contract of the document's answer Name: is a text a name? Memory that was there is left as it was.
-/
namespace Go.Proofs.Ytcajcmaldnmbjaa.Fl
open Go.RowKit Go.Proofs.Ytcajcmaldnmbjaa.Tk
set_option linter.unusedVariables false
set_option linter.unusedSimpArgs false

theorem name_nil : nameB [] = false := rfl
end Go.Proofs.Ytcajcmaldnmbjaa.Fl
/-
  Contract of the document's answer leaf: may a filter without parts be? Memory that was there is left as it was.
-/
namespace Go.Proofs.Ytcajcmaldnmbjaa.Fl
open Go.RowKit Go.Proofs.Ytcajcmaldnmbjaa.Tk
set_option linter.unusedVariables false
set_option linter.unusedSimpArgs false

/-- Is it a value, and of that sort? -/
def valT0 (t : Bool) (v : Att) : Bool := valB v && v.text == t
def LfR (p : Att → Bool) (vs : List Att) (w : World) (vi : Value) (wr : World) : Prop :=
  ∃ k : Nat, k ≤ vs.length ∧ vi = .int .i64 k ∧ Hid (∀ v ∈ vs.take k, p v = true) ∧ Below w.heap.size w wr
theorem val_cases (sn : ByteArray) (t t0 : Bool) (n : Int) (ss : ByteArray) (pl : Bool) (hp : plainB ss.data.toList = pl) (V : Att) (h1 : sn.data.toList = V.name) (h2 : t = V.text) (h3 : n = V.num) (h4 : ss.data.toList = V.str) :
    (¬ sn = ⟨#[]⟩ ∧ valT0 t0 V = false) ∨ (sn = ⟨#[]⟩ ∧ t = true ∧ t0 = false ∧ valT0 t0 V = false) ∨ (sn = ⟨#[]⟩ ∧ t = false ∧ t0 = true ∧ valT0 t0 V = false) ∨
    (sn = ⟨#[]⟩ ∧ t = true ∧ t0 = true ∧ ¬ n = 0 ∧ valT0 t0 V = false) ∨ (sn = ⟨#[]⟩ ∧ t = true ∧ t0 = true ∧ n = 0 ∧ pl = false ∧ valT0 t0 V = false) ∨ (sn = ⟨#[]⟩ ∧ t = true ∧ t0 = true ∧ n = 0 ∧ pl = true ∧ valT0 t0 V = true) ∨
    (sn = ⟨#[]⟩ ∧ t = false ∧ t0 = false ∧ ¬ ss = ⟨#[]⟩ ∧ valT0 t0 V = false) ∨ (sn = ⟨#[]⟩ ∧ t = false ∧ t0 = false ∧ ss = ⟨#[]⟩ ∧ valT0 t0 V = true) := by
  have hn : sn = ⟨#[]⟩ ↔ V.name = [] := by rw [← h1]; obtain ⟨⟨l⟩⟩ := sn; simp
  have hs : ss = ⟨#[]⟩ ↔ V.str = [] := by rw [← h4]; obtain ⟨⟨l⟩⟩ := ss; simp
  rw [h4] at hp
  subst h2 h3
  by_cases e1 : V.name = []
  · cases ht : V.text <;> cases t0
    · by_cases e2 : V.str = []
      · exact Or.inr (Or.inr (Or.inr (Or.inr (Or.inr (Or.inr (Or.inr ⟨hn.2 e1, rfl, rfl, hs.2 e2, by simp [valT0, valB, e1, e2, ht]⟩))))))
      · exact Or.inr (Or.inr (Or.inr (Or.inr (Or.inr (Or.inr (Or.inl ⟨hn.2 e1, rfl, rfl, fun h => e2 (hs.1 h), by simp [valT0, valB, e1, e2, ht]⟩))))))
    · exact Or.inr (Or.inr (Or.inl ⟨hn.2 e1, rfl, rfl, by simp [valT0, ht]⟩))
    · exact Or.inr (Or.inl ⟨hn.2 e1, rfl, rfl, by simp [valT0, ht]⟩)
    · by_cases e2 : V.num = 0
      · cases hq : pl
        · exact Or.inr (Or.inr (Or.inr (Or.inr (Or.inl ⟨hn.2 e1, rfl, rfl, e2, rfl, by rw [hq] at hp; simp [valT0, valB, e1, e2, ht, hp]⟩))))
        · exact Or.inr (Or.inr (Or.inr (Or.inr (Or.inr (Or.inl ⟨hn.2 e1, rfl, rfl, e2, rfl, by rw [hq] at hp; simp [valT0, valB, e1, e2, ht, hp]⟩)))))
      · exact Or.inr (Or.inr (Or.inr (Or.inl ⟨hn.2 e1, rfl, rfl, e2, by simp [valT0, valB, e1, e2, ht]⟩)))
  · exact Or.inl ⟨fun h => e1 (hn.1 h), by simp [valT0, valB, e1]⟩
/-- What is asked of a filter without parts, behind the values. -/
def tailB (k : Int) (o : List UInt8) (vs : List Att) : Bool := if k = 6 then o == [] else if k = 5 then decide (vs.length = 1) && firstText vs && o == [] else decide (vs.length = 1) && opB o
theorem leafB_eq {k : Int} (n o : List UInt8) (v : Att) (r : List Att) (lp : Nat) : (leafB k n o (v :: r) && decide (lp = 0)) = (nameB n && decide (lp = 0) && decide ((v :: r).length ≤ 20) && (v :: r).all (valT0 v.text) && tailB k o (v :: r)) := by
  have e1 : decide ((v :: r).length ≤ 20) = decide (r.length < 20) := decide_eq_decide.2 (by simp only [List.length_cons]; omega)
  have e2 : (v :: r).all (valT0 v.text) = (valB v && r.all fun u => valB u && u.text == v.text) := by
    simp only [List.all_cons, valT0, beq_self_eq_true, Bool.and_true]
    rfl
  have e3 : decide ((v :: r).length = 1) = r.isEmpty := by cases r <;> simp
  rw [leafB, tailB, e1, e2, e3, firstText]
  by_cases h6 : k = 6
  · simp only [h6, if_true]
    cases nameB n <;> cases decide (lp = 0) <;> cases decide (r.length < 20) <;> cases valB v <;> cases (r.all fun u => valB u && u.text == v.text) <;> simp
  · by_cases h5 : k = 5
    · simp only [h5, if_true]
      cases nameB n <;> cases decide (lp = 0) <;> cases decide (r.length < 20) <;> cases valB v <;> cases (r.all fun u => valB u && u.text == v.text) <;> simp
    · rw [if_neg h6, if_neg h5]
      cases nameB n <;> cases decide (lp = 0) <;> cases decide (r.length < 20) <;> cases valB v <;> cases (r.all fun u => valB u && u.text == v.text) <;> simp
theorem beq_bytes' (s r : ByteArray) : (s.toList == r.toList) = decide (s = r) := by
  by_cases h : s = r
  · rw [decide_eq_true h, h]; simp
  · rw [decide_eq_false h, beq_eq_false_iff_ne]
    intro e
    rw [Lib.toList_data, Lib.toList_data] at e
    exact h (by obtain ⟨⟨a⟩⟩ := s; obtain ⟨⟨b⟩⟩ := r; simpa using e)
theorem ne_bytes' {s : ByteArray} (h : ¬ s = ⟨#[]⟩) : ¬ s.toList = [] := by
  have := beq_bytes' s ⟨#[]⟩
  rw [decide_eq_false h, beq_eq_false_iff_ne, Lib.toList_data ⟨#[]⟩] at this
  exact this
end Go.Proofs.Ytcajcmaldnmbjaa.Fl
/-
  Contracts of Same of package filter, of slices.Equal and slices.EqualFunc as it calls them: are two filters the same? To any depth. Memory that was there is left as it was.
-/
namespace Go.Proofs.Ytcajcmaldnmbjaa.Fl
open Go.RowKit
set_option linter.unusedVariables false
set_option linter.unusedSimpArgs false

def eqL {α : Type} (p : α → α → Bool) : List α → List α → Bool
  | [], [] => true
  | u :: r, v :: s => p u v && eqL p r s
  | _, _ => false
theorem eqL_len {α : Type} {p : α → α → Bool} : ∀ {l m : List α}, l.length ≠ m.length → eqL p l m = false
  | [], [], h => absurd rfl h
  | [], _ :: _, _ => rfl
  | _ :: _, [], _ => rfl
  | u :: r, v :: s, h => by rw [eqL, eqL_len (by simpa using h), Bool.and_false]
theorem eqL_no {α : Type} {p : α → α → Bool} : ∀ {l m : List α} {k : Nat} {u v : α}, l[k]? = some u → m[k]? = some v → p u v = false → eqL p l m = false
  | [], _, k, u, v, h, _, _ => by simp at h
  | _ :: _, [], k, u, v, _, h, _ => by simp at h
  | a :: r, b :: s, 0, u, v, h1, h2, h => by
    simp at h1 h2
    rw [eqL, h1, h2, h, Bool.false_and]
  | a :: r, b :: s, k + 1, u, v, h1, h2, h => by rw [eqL, eqL_no (k := k) (by simpa using h1) (by simpa using h2) h, Bool.and_false]
theorem eqL_yes {α : Type} {p : α → α → Bool} : ∀ {l m : List α}, l.length = m.length → (∀ (k : Nat) (u v : α), k < l.length → l[k]? = some u → m[k]? = some v → p u v = true) → eqL p l m = true
  | [], [], _, _ => rfl
  | [], _ :: _, h, _ => by simp at h
  | _ :: _, [], h, _ => by simp at h
  | u :: r, v :: s, h, g => by
    rw [eqL, g 0 u v (by simp) (by simp) (by simp), Bool.true_and]
    exact eqL_yes (by simpa using h) fun k a b hk ha hb => g (k + 1) a b (by simpa using hk) (by simpa using ha) (by simpa using hb)
theorem eqL_more {α : Type} {p : α → α → Bool} {l m : List α} {k : Nat} {u v : α} (h : ∀ (i : Nat) (u v : α), i < k → l[i]? = some u → m[i]? = some v → p u v = true) (hu : l[k]? = some u) (hv : m[k]? = some v) (hp : p u v = true) :
    ∀ (i : Nat) (u v : α), i < k + 1 → l[i]? = some u → m[i]? = some v → p u v = true := by
  intro i a b hi ha hb
  by_cases e : i = k
  · subst e
    rw [hu] at ha
    rw [hv] at hb
    cases ha
    cases hb
    exact hp
  · exact h i a b (by omega) ha hb
def attEq (u v : Att) : Bool := u.name == v.name && u.text == v.text && u.num == v.num && u.str == v.str
def attsEq (l m : List Att) : Bool := eqL attEq l m
mutual
def sameB : Flt → Flt → Bool
  | .mk k n o vs ps, g => k == g.kind && n == g.name && o == g.op && attsEq vs g.vals && sameL ps g.parts
def sameL : List Flt → List Flt → Bool
  | [], [] => true
  | p :: r, q :: s => sameB p q && sameL r s
  | _, _ => false
end
theorem sameL_eq : ∀ l m : List Flt, sameL l m = eqL sameB l m
  | [], [] => by rw [sameL, eqL]
  | [], _ :: _ => by rw [sameL, eqL] <;> simp
  | _ :: _, [] => by rw [sameL, eqL] <;> simp
  | p :: r, q :: s => by rw [sameL, eqL, sameL_eq r s]
theorem neq_att (s1 : ByteArray) (t1 : Bool) (n1 : Int) (r1 s2 : ByteArray) (t2 : Bool) (n2 : Int) (r2 : ByteArray) (w : World) :
    (binOp .neq 31 (.agg #[.string s1, .bool t1, .int .i64 n1, .string r1]) (.agg #[.string s2, .bool t2, .int .i64 n2, .string r2])).run Try.prog w = .ok (.bool (!(s1.toList == s2.toList && t1 == t2 && n1 == n2 && r1.toList == r2.toList))) w := by
  simp [go_sem]
  by_cases h1 : s1.toList = s2.toList <;> by_cases h2 : t1 = t2 <;> by_cases h3 : n1 = n2 <;> by_cases h4 : r1.toList = r2.toList <;> simp [h1, h2, h3, h4]
theorem att_eq {u v : Att} {s1 r1 s2 r2 : ByteArray} (h1 : s1.data.toList = u.name) (h2 : r1.data.toList = u.str) (h3 : s2.data.toList = v.name) (h4 : r2.data.toList = v.str) : (s1.toList == s2.toList && u.text == v.text && u.num == v.num && r1.toList == r2.toList) = attEq u v := by
  rw [Lib.toList_data, Lib.toList_data, Lib.toList_data, Lib.toList_data, h1, h2, h3, h4, attEq]
def EqR {α : Type} (p : α → α → Bool) (l m : List α) (w : World) (vi : Value) (wr : World) : Prop :=
  ∃ k : Nat, k ≤ l.length ∧ vi = .int .i64 k ∧ Hid (∀ (i : Nat) (u v : α), i < k → l[i]? = some u → m[i]? = some v → p u v = true) ∧ Below w.heap.size w wr

end Go.Proofs.Ytcajcmaldnmbjaa.Fl
/-
  Contract of Same of package filter: are two filters the same? To any depth. Memory that was there is left as it was.
-/
namespace Go.Proofs.Ytcajcmaldnmbjaa.Fl
open Go.RowKit
set_option linter.unusedVariables false
set_option linter.unusedSimpArgs false

theorem beq_bytes (s r : ByteArray) : (s.toList == r.toList) = decide (s = r) := by
  by_cases h : s = r
  · rw [decide_eq_true h, h]; simp
  · rw [decide_eq_false h, beq_eq_false_iff_ne]
    intro e
    rw [Lib.toList_data, Lib.toList_data] at e
    exact h (by obtain ⟨⟨a⟩⟩ := s; obtain ⟨⟨b⟩⟩ := r; simpa using e)
theorem ne_bytes {s r : ByteArray} (h : ¬ s = r) : ¬ s.toList = r.toList := by
  have := beq_bytes s r
  rw [decide_eq_false h, beq_eq_false_iff_ne] at this
  exact this
theorem bs_inj {s : ByteArray} {l : List UInt8} (h : s.data.toList = l) : s = ⟨l.toArray⟩ := by rw [← h]
end Go.Proofs.Ytcajcmaldnmbjaa.Fl
/-
  Contract of the document's answer fine: may a filter be, but for its depth, and its nodes? Memory that was there is left as it was.
-/
namespace Go.Proofs.Ytcajcmaldnmbjaa.Fl
open Go.RowKit Go.Proofs.Ytcajcmaldnmbjaa.Tk
set_option linter.unusedVariables false
set_option linter.unusedSimpArgs false

def partP (k : Int) (q : Flt) : Bool := fine q && (decide (k = 3) || !decide (q.kind = k))
def FnR (k : Int) (ps : List Flt) (w : World) (vi : Value) (wr : World) : Prop :=
  ∃ j : Nat, j ≤ ps.length ∧ vi = .int .i64 j ∧ Hid (∀ q ∈ ps.take j, partP k q = true) ∧ Below w.heap.size w wr
theorem take_more_flt {ps : List Flt} {j : Nat} {q : Flt} {p : Flt → Bool} (h : ∀ v ∈ ps.take j, p v = true) (hk : ps[j]? = some q) (hv : p q = true) : ∀ v ∈ ps.take (j + 1), p v = true := by
  rw [List.take_add_one, hk]
  intro u hu
  rcases List.mem_append.1 hu with hu | hu
  · exact h u hu
  · simp at hu
    rw [hu]
    exact hv
end Go.Proofs.Ytcajcmaldnmbjaa.Fl
namespace Go.Proofs.Ytcajcmaldnmbjaa.Fl
open Go.RowKit Go.Proofs.Ytcajcmaldnmbjaa.Tk
set_option linter.unusedVariables false
set_option linter.unusedSimpArgs false

mutual
theorem dep_sz : ∀ f : Flt, dep f ≤ sz f
  | .mk _ _ _ _ l => by have := depL_szL l; rw [dep, sz]; omega
theorem depL_szL : ∀ l : List Flt, depL l ≤ szL l
  | [] => by rw [depL, szL]; omega
  | p :: r => by have := dep_sz p; have := depL_szL r; rw [depL, szL]; omega
end
def DpR (ps : List Flt) (w : World) (vn vi : Value) (wr : World) : Prop :=
  ∃ j : Nat, j ≤ ps.length ∧ vi = .int .i64 j ∧ vn = .int .i64 (depL (ps.take j) : Nat) ∧ Below w.heap.size w wr
def NdR (ps : List Flt) (w : World) (vn vi : Value) (wr : World) : Prop :=
  ∃ j : Nat, j ≤ ps.length ∧ vi = .int .i64 j ∧ vn = .int .i64 (1 + szL (ps.take j) : Nat) ∧ Below w.heap.size w wr
theorem depL_step {j : Nat} {ps : List Flt} {q : Flt} (hq : ps[j]? = some q) : depL (ps.take (j + 1)) = max (depL (ps.take j)) (dep q) := by
  rw [List.take_add_one, hq, depL_app]
  simp [depL]
theorem szL_take : ∀ (ps : List Flt) (j : Nat), szL (ps.take j) ≤ szL ps
  | [], j => by simp
  | p :: r, 0 => by simp [szL]
  | p :: r, j + 1 => by have := szL_take r j; rw [List.take_succ_cons, szL, szL]; omega
theorem depL_take (ps : List Flt) (j : Nat) : depL (ps.take j) ≤ szL ps := Nat.le_trans (depL_szL _) (szL_take ps j)
theorem szL_one {ps : List Flt} {q : Flt} {j : Nat} (h : ps[j]? = some q) : sz q ≤ szL ps := sz_mem (List.mem_of_getElem? h)
end Go.Proofs.Ytcajcmaldnmbjaa.Fl
