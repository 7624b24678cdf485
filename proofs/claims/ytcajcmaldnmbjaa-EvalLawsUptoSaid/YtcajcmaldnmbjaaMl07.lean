/-
  Contract of the document's answer names: a filter's names, in a row of the call's own. Memory that was there is left as it was.
-/
import Derived.Test.YtcajcmaldnmbjaaMl06
import Derived.Test.YtcajcmaldnmbjaaMl05
import Derived.Test.YtcajcmaldnmbjaaMl03
import Derived.Laws.AppendOwnNone
import Derived.Maps.AppendAt
import Derived.OwnWalk
/-
  The example of layer 9 holds; are attributes few (the document's Attrs)? Memory that was there is left as it was.
-/
namespace Go.Proofs.Ytcajcmaldnmbjaa.Ev
open Go.RowKit Go.Maps Go.Proofs.Ytcajcmaldnmbjaa.Fl Go.Proofs.Ytcajcmaldnmbjaa.Tk Go.Proofs.Ytcajcmaldnmbjaa.Ck
set_option linter.unusedVariables false
set_option linter.unusedSimpArgs false

theorem fOk_nil {W : World} {k : Int} {n o : List UInt8} {vs : List Att} {a b : Option Addr} (hn : n.length ≤ 9) (ho : o.length ≤ 9) (hk : -9223372036854775808 ≤ k) (hk2 : k ≤ 9223372036854775807) (hA : AttsAt W (Old W.heap.size) a vs) : FltAt W (Old W.heap.size) (.mk k n o vs []) a b := by
  refine FltAt.mk' ⟨?_, ?_, hk, hk2, ?_⟩ hA ?_
  · simp only [Flt.name, maxLen]; omega
  · simp only [Flt.op, maxLen]; omega
  · simp [Flt.parts, maxLen]
  · simp only [Flt.parts]; rw [PartsAt]; trivial
theorem atts_nil {W : World} {S : Nat → Prop} {a : Option Addr} : AttsAt W S a [] := ⟨by simp [maxLen], by simp, fun h => by simp at h⟩
def upF : Flt := .mk 4 [97] [60] [⟨[], false, 5, []⟩] []
theorem up1 : holdsB [⟨[97], false, 4, []⟩] upF = true := by simp [upF, holdsB, leafH, attOf, cmpV, standsB]
theorem up2 : holdsB [] upF = false := by simp [upF, holdsB, leafH, attOf]
theorem up3 : holdsB [] (.mk 7 [] [] [] []) = true := by simp [holdsB]
set_option maxHeartbeats 2000000 in
set_option maxRecDepth 100000 in
theorem up_any (w : World) : Calls Try.prog 5 #[] w fun e w' => e = .returned (.bool true) ∧ Below w.heap.size w w' := by
  obtain ⟨w1, hw1⟩ : ∃ v, v = w.alloc (.cells #[.string ⟨#[]⟩, .bool false, .int .i64 5, .string ⟨#[]⟩] 31) := ⟨_, rfl⟩
  have hs1 : w1.heap.size = w.heap.size + 1 := by rw [hw1]; simp
  have HB1 := Lib.hid (show Below w.heap.size w w1 by rw [hw1]; exact (Below.refl _ _).alloc (Nat.le_refl _) _)
  have A1 := Lib.hid (show AttsAt w1 (Old w1.heap.size) (some ⟨w.heap.size, 0, none⟩) [⟨[], false, 5, []⟩] by
    refine atts_one ⟨by simp [maxLen], by simp [maxLen], by simp, by simp⟩ ?_ ?_ ?_ ?_ <;> rw [hw1] <;> simp [go_sem, bs])
  have HW1 := Lib.hid hw1
  obtain ⟨w2, hw2⟩ : ∃ v, v = w1.alloc (.cells #[.int .i64 4, .string ⟨#[97]⟩, .string ⟨#[60]⟩, .slice (some ⟨w.heap.size, 0, none⟩) 1 1, .slice none 0 0] 25) := ⟨_, rfl⟩
  have hs2 : w2.heap.size = w.heap.size + 2 := by rw [hw2]; simp [hs1]
  have HB12 := Lib.hid (show Below w1.heap.size w1 w2 by rw [hw2]; exact (Below.refl _ _).alloc (Nat.le_refl _) _)
  have HB2 := Lib.hid (HB1.out.trans (HB12.out.mono HB1.out.size))
  have X2 := Lib.hid (show Box w2 (w.heap.size + 1) (.int .i64 4) (.string ⟨#[97]⟩) (.string ⟨#[60]⟩) (.slice (some ⟨w.heap.size, 0, none⟩) 1 1) (.slice none 0 0) by rw [hw2, ← hs1]; exact Box.new ..)
  have F2 := Lib.hid (show FltAt w2 (Old w2.heap.size) upF (some ⟨w.heap.size, 0, none⟩) none from fOk_nil (by simp) (by simp) (by omega) (by omega) (attsFit A1.out HB12.out HB12.out.size))
  have HW2 := Lib.hid hw2
  obtain ⟨w3, hw3⟩ : ∃ v, v = w2.alloc (.cells #[.string ⟨#[97]⟩, .bool false, .int .i64 4, .string ⟨#[]⟩] 31) := ⟨_, rfl⟩
  have HB23 := Lib.hid (show Below w2.heap.size w2 w3 by rw [hw3]; exact (Below.refl _ _).alloc (Nat.le_refl _) _)
  have HB3 := Lib.hid (HB2.out.trans (HB23.out.mono HB2.out.size))
  have A3 := Lib.hid (show AttsAt w3 (Old w3.heap.size) (some ⟨w2.heap.size, 0, none⟩) [⟨[97], false, 4, []⟩] by
    refine atts_one ⟨by simp [maxLen], by simp [maxLen], by simp, by simp⟩ ?_ ?_ ?_ ?_ <;> rw [hw3] <;> simp [go_sem, bs])
  have HW3 := Lib.hid hw3
  have C1 := Lib.hid (evalHolds_any upF [⟨[97], false, 4, []⟩] (some ⟨w.heap.size, 0, none⟩) 1 none 0 (some ⟨w2.heap.size, 0, none⟩) 1 w3 (fltFit F2.out HB23.out HB23.out.size) A3.out)
  have C2 := Lib.hid (fun W (hW : Below w2.heap.size w2 W) => evalHolds_any upF [] (some ⟨w.heap.size, 0, none⟩) 1 none 0 none 0 W (fltFit F2.out hW hW.size) atts_nil)
  have C3 := Lib.hid (fun W => evalHolds_any (.mk 7 [] [] [] []) [] none 0 none 0 none 0 W (fOk_nil (by simp) (by simp) (by omega) (by omega) atts_nil) atts_nil)
  rw [up1] at C1
  rw [up2] at C2
  rw [up3] at C3
  rw [hs2] at C1
  simp only [upF, Flt.kind, Flt.name, Flt.op, Flt.vals, Flt.parts, bs, List.length_cons, List.length_nil, Nat.zero_add] at C1 C2 C3
  have HS2 := Lib.hid hs2
  clear hw1 hw2 hw3 hs1 hs2
  go_enter Try.func5, Try.ntmps5
  go_wp2_with fail
  rw [← HW1.out, ← HW2.out, ← HW3.out]
  refine Calls.mono C1.out ?_
  rintro e w4 ⟨rfl, hb⟩
  have HB24 := Lib.hid (HB23.out.trans (hb.mono HB23.out.size))
  have HB4 := Lib.hid (HB3.out.trans (hb.mono HB3.out.size))
  have X4 := Lib.hid (X2.out.later HB24.out)
  clear hb
  obtain ⟨p0, p1, p2, p3, p4⟩ := X4.out
  go_wp2_with fail
  refine Calls.mono (C2.out _ HB24.out) ?_
  rintro e w5 ⟨rfl, hb⟩
  have HB5 := Lib.hid (HB4.out.trans (hb.mono HB4.out.size))
  clear hb
  go_wp2_with fail
  refine Calls.mono (C3.out _) ?_
  rintro e w6 ⟨rfl, hb⟩
  have HB6 := Lib.hid (HB5.out.trans (hb.mono HB5.out.size))
  clear hb
  go_wp2_with fail
  go_ret
  exact ⟨rfl, HB6.out⟩
def FwEnd (n : Nat) (w w' : World) (e : Ending) : Prop := (∃ r : Bool, e = .returned (.bool r) ∧ (r = true → n ≤ 40)) ∧ w = w'
set_option maxHeartbeats 1000000 in
set_option maxRecDepth 100000 in
theorem attrs40 (vs : List Att) (a : Option Addr) (c : Nat) (w : World) (hA : AttsAt w (Old w.heap.size) a vs) :
    Calls Try.prog 7 #[.slice a vs.length c] w fun e w' => FwEnd vs.length w w' e := by
  obtain ⟨n, hn⟩ : ∃ n, n = vs.length := ⟨_, rfl⟩
  have HN := Lib.hid hn
  have hbig : n ≤ 9223372036854775807 := by have := hA.1; unfold maxLen at this; omega
  have HA := Lib.hid hA
  rw [← hn]
  clear hn hA
  go_enter Try.func7, Try.ntmps7
  go_wp2_with fail
  go_loopw [3] (fun vi wr => AtR n w vi wr) (fun vi _ => n - (intOf vi).toNat)
  case atStart => exact ⟨0, Nat.zero_le _, rfl, rfl⟩
  case round =>
    obtain ⟨k, hk, rfl, rfl⟩ := hrel
    by_cases hlt : k < n
    · have hlz : (k : Int) < (n : Int) := by omega
      have hkl : k < vs.length := by rw [← HN.out]; exact hlt
      obtain ⟨g, o, hg, hgl, hc⟩ := HA.out.2.2 (by omega)
      obtain ⟨c0, c1, c2, c3⟩ := hc k hkl
      obtain ⟨x, e0, hx⟩ := bs_bytes vs[k].name
      obtain ⟨y, e3, hy⟩ := bs_bytes vs[k].str
      rw [e0] at c0
      rw [e3] at c3
      subst hg
      clear hc c1 c2 e0 e3 hx hy hgl
      by_cases h1 : 300 < x.size
      · have h1z : (300 : Int) < (x.size : Int) := by omega
        go_wp2_with fail
        go_ret
        exact ⟨⟨false, rfl, fun h => by cases h⟩, rfl⟩
      · have h1z : ¬ (300 : Int) < (x.size : Int) := by omega
        by_cases h2 : 300 < y.size
        · have h2z : (300 : Int) < (y.size : Int) := by omega
          go_wp2_with fail
          go_ret
          exact ⟨⟨false, rfl, fun h => by cases h⟩, rfl⟩
        · have h2z : ¬ (300 : Int) < (y.size : Int) := by omega
          go_wp2_with fail
          go_roundw
          case rel => exact ⟨k + 1, by omega, by go_num, rfl⟩
          case measure => simp [intOf]; omega
    · have hlz : ¬ (k : Int) < (n : Int) := by omega
      by_cases h40 : n ≤ 40
      · have h40z : (n : Int) ≤ 40 := by omega
        go_wp2_with fail
        go_ret
        exact ⟨⟨_, rfl, fun _ => h40⟩, rfl⟩
      · have h40z : decide ((n : Int) ≤ 40) = false := decide_eq_false (by omega)
        go_wp2_with fail
        go_ret
        exact ⟨⟨false, by first | rfl | simp [h40z], fun h => by cases h⟩, rfl⟩
end Go.Proofs.Ytcajcmaldnmbjaa.Ev
/-
  Filters made of filters: the law's not, and two parts in a row of the call's own. Memory that was there is left as it was.
-/
namespace Go.Proofs.Ytcajcmaldnmbjaa.Ev
open Go.RowKit Go.Maps Go.Proofs.Ytcajcmaldnmbjaa.Fl Go.Proofs.Ytcajcmaldnmbjaa.Tk Go.Proofs.Ytcajcmaldnmbjaa.Ck
set_option linter.unusedVariables false
set_option linter.unusedSimpArgs false

/-- Block g is a row of filters' cells. -/
def RwF (W : World) (g : Nat) (cs : Array Value) : Prop := W.heap[g]? = some (.cells cs 25)
theorem RwF.lt {W : World} {g : Nat} {cs : Array Value} (h : RwF W g cs) : g < W.heap.size := (Array.getElem?_eq_some_iff.1 h).1
theorem RwF.later {W V : World} {g : Nat} {cs : Array Value} (h : RwF W g cs) (hb : Below W.heap.size W V) : RwF V g cs := (hb.block g h.lt).trans h
theorem RwF.new (W : World) (cs : Array Value) : RwF (W.alloc (.cells cs 25)) W.heap.size cs := heap_alloc_new W _
theorem RwF.cell {W : World} {g : Nat} {cs : Array Value} (h : RwF W g cs) (i : Nat) : W.cell? ⟨g, i, none⟩ = cs[i]? := by
  unfold RwF at h
  simp [World.cell?, h]
theorem RwF.same {W V : World} {g : Nat} {cs : Array Value} (h : RwF W g cs) (e : V.heap[g]? = W.heap[g]?) : RwF V g cs := e.trans h
theorem RwF.frozen {W : World} {g : Nat} {cs : Array Value} (h : RwF W g cs) (o : Nat) : W.frozen? ⟨g, o, none⟩ = false := by
  unfold RwF at h
  simp [World.frozen?, h]
/-- The five cells of block z are written. -/
def set5 (W : World) (z : Nat) (x0 x1 x2 x3 x4 : Value) : World := ((((W.setCell ⟨z, 0, none⟩ x0).setCell ⟨z, 1, none⟩ x1).setCell ⟨z, 2, none⟩ x2).setCell ⟨z, 3, none⟩ x3).setCell ⟨z, 4, none⟩ x4
theorem set5_heap (W : World) (z g : Nat) (x0 x1 x2 x3 x4 : Value) (h : g ≠ z) : (set5 W z x0 x1 x2 x3 x4).heap[g]? = W.heap[g]? :=
  (Below.heap_setCell _ _ _ _ h).trans ((Below.heap_setCell _ _ _ _ h).trans ((Below.heap_setCell _ _ _ _ h).trans ((Below.heap_setCell _ _ _ _ h).trans (Below.heap_setCell _ _ _ _ h))))
theorem set5_size (W : World) (z : Nat) (x0 x1 x2 x3 x4 : Value) : (set5 W z x0 x1 x2 x3 x4).heap.size = W.heap.size := by simp [set5, World.setCell]
theorem set5_below {B : Nat} {w W : World} (h : Below B w W) {z : Nat} (hz : B ≤ z) (x0 x1 x2 x3 x4 : Value) : Below B w (set5 W z x0 x1 x2 x3 x4) := ((((h.setCell hz _).setCell hz _).setCell hz _).setCell hz _).setCell hz _
theorem set5_row {W : World} {z : Nat} {y0 y1 y2 y3 y4 : Value} (h : RwF W z #[y0, y1, y2, y3, y4]) (x0 x1 x2 x3 x4 : Value) : RwF (set5 W z x0 x1 x2 x3 x4) z #[x0, x1, x2, x3, x4] := by
  have hl := h.lt
  unfold RwF at h ⊢
  simp [set5, World.setCell, Array.getElem?_modify, h]
theorem five_of {W : World} {h i : Nat} {cs : Array Value} {f : Flt} {a : Option Addr} {c : Nat} {b : Option Addr} {d : Nat} (hr : RwF W h cs) (hc : ∀ j, j < 5 → cs[i + j]? = (fltC f a c b d)[j]?) : Five W h i f a c b d := by
  refine ⟨?_, ?_, ?_, ?_, ?_⟩
  · rw [hr.cell i]; have := hc 0 (by omega); rw [Nat.add_zero] at this; rw [this]; rfl
  · rw [hr.cell (i + 1), hc 1 (by omega)]; rfl
  · rw [hr.cell (i + 2), hc 2 (by omega)]; rfl
  · rw [hr.cell (i + 3), hc 3 (by omega)]; rfl
  · rw [hr.cell (i + 4), hc 4 (by omega)]; rfl
theorem one_at {W : World} {h : Nat} {k : Int} {f : Flt} {a : Option Addr} {c : Nat} {b : Option Addr} {d : Nat} (hk : -9223372036854775808 ≤ k ∧ k ≤ 9223372036854775807) (hr : RwF W h (fltC f a c b d).toArray) (hF : FltAt W (Old W.heap.size) f a b) : FltAt W (Old W.heap.size) (.mk k [] [] [] [f]) none (some ⟨h, 0, none⟩) := by
  refine FltAt.mk' ⟨by simp [Flt.name], by simp [Flt.op], hk.1, hk.2, by simp [Flt.parts, maxLen]⟩ ⟨by simp [Flt.vals, maxLen], by simp [Flt.vals], fun h => by simp [Flt.vals] at h⟩ ?_
  refine PartsAt.mk' fun j hj => ?_
  obtain rfl : j = 0 := by simpa [Flt.parts] using hj
  exact ⟨h, 0, a, c, b, d, rfl, hr.lt, five_of (i := 0 + (0 + 0) * 5) hr (fun j hj => by simp [fltC] <;> rfl), hF⟩
theorem two_at {W : World} {h : Nat} {k : Int} {f : Flt} {a : Option Addr} {c : Nat} {b : Option Addr} {d : Nat} {g : Flt} {a' : Option Addr} {c' : Nat} {b' : Option Addr} {d' : Nat} (hk : -9223372036854775808 ≤ k ∧ k ≤ 9223372036854775807) (hr : RwF W h (fltC f a c b d ++ fltC g a' c' b' d').toArray) (hF : FltAt W (Old W.heap.size) f a b) (hG : FltAt W (Old W.heap.size) g a' b') :
    FltAt W (Old W.heap.size) (.mk k [] [] [] [f, g]) none (some ⟨h, 0, none⟩) := by
  refine FltAt.mk' ⟨by simp [Flt.name], by simp [Flt.op], hk.1, hk.2, by simp [Flt.parts, maxLen]⟩ ⟨by simp [Flt.vals, maxLen], by simp [Flt.vals], fun h => by simp [Flt.vals] at h⟩ ?_
  refine PartsAt.mk' fun j hj => ?_
  have hj2 : j = 0 ∨ j = 1 := by simp [Flt.parts] at hj; omega
  rcases hj2 with rfl | rfl
  · exact ⟨h, 0, a, c, b, d, rfl, hr.lt, five_of (i := 0 + (0 + 0) * 5) hr (fun j hj => by
      rcases (show j = 0 ∨ j = 1 ∨ j = 2 ∨ j = 3 ∨ j = 4 by omega) with rfl | rfl | rfl | rfl | rfl <;> simp [fltC] <;> rfl), hF⟩
  · exact ⟨h, 0, a', c', b', d', rfl, hr.lt, five_of (i := 0 + (0 + 1) * 5) hr (fun j hj => by
      rcases (show j = 0 ∨ j = 1 ∨ j = 2 ∨ j = 3 ∨ j = 4 by omega) with rfl | rfl | rfl | rfl | rfl <;> simp [fltC] <;> rfl), hG⟩
/-- What not tells. -/
def NotE (f : Flt) (w' : World) (e : Ending) : Prop := ∃ h : Nat, e = .returned (.agg #[.int .i64 3, .string ⟨#[]⟩, .string ⟨#[]⟩, .slice none 0 0, .slice (some ⟨h, 0, none⟩) 1 1]) ∧ FltAt w' (Old w'.heap.size) (notF f) none (some ⟨h, 0, none⟩)
set_option maxHeartbeats 1000000 in
set_option maxRecDepth 100000 in
theorem not_any (f : Flt) (a : Option Addr) (c : Nat) (b : Option Addr) (d : Nat) (w : World) (hF : FltAt w (Old w.heap.size) f a b) :
    Calls Try.prog 10 #[.agg #[.int .i64 f.kind, bs f.name, bs f.op, .slice a f.vals.length c, .slice b f.parts.length d]] w fun e w' => NotE f w' e ∧ Below w.heap.size w w' := by
  have HF := Lib.hid (fun W (hW : Below w.heap.size w W) h (hr : RwF W h (fltC f a c b d).toArray) => one_at (k := 3) ⟨by omega, by omega⟩ hr (fltFit hF hW hW.size))
  unfold fltC at HF
  obtain ⟨sn, en, _⟩ := bs_bytes f.name
  obtain ⟨so, eo, _⟩ := bs_bytes f.op
  obtain ⟨k, hqk⟩ : ∃ x, x = f.kind := ⟨_, rfl⟩
  obtain ⟨nv, hqv⟩ : ∃ x, x = f.vals.length := ⟨_, rfl⟩
  obtain ⟨np, hqp⟩ : ∃ x, x = f.parts.length := ⟨_, rfl⟩
  rw [en, eo, ← hqk, ← hqv, ← hqp] at HF
  rw [en, eo, ← hqk, ← hqv, ← hqp]
  clear en eo hqk hqv hqp hF
  go_enter Try.func10, Try.ntmps10
  go_wp2_with fail
  refine bodyPost_ret (v := .agg #[.int .i64 3, .string ⟨#[]⟩, .string ⟨#[]⟩, .slice none 0 0, .slice (some ⟨w.heap.size + 2, 0, none⟩) 1 1]) (by simp [results, Try.results10, go_sem, *]) rfl ⟨⟨_, rfl, ?_⟩, ?_⟩
  · refine HF.out _ ((((Below.refl _ _).alloc (Nat.le_refl _) _).alloc (by simp) _).alloc (by simp; omega) _) _ ?_
    have h2 := RwF.new ((w.alloc (.cells #[.int .i64 k, .string sn, .string so, .slice a nv c, .slice b np d] 25)).alloc (.cells #[.int .i64 3, .string ⟨#[]⟩, .string ⟨#[]⟩, .slice none 0 0, .slice (some ⟨w.heap.size + 1 + 1, 0, none⟩) 1 1] 25)) #[.int .i64 k, .string sn, .string so, .slice a nv c, .slice b np d]
    rw [show ((w.alloc (.cells #[.int .i64 k, .string sn, .string so, .slice a nv c, .slice b np d] 25)).alloc (.cells #[.int .i64 3, .string ⟨#[]⟩, .string ⟨#[]⟩, .slice none 0 0, .slice (some ⟨w.heap.size + 1 + 1, 0, none⟩) 1 1] 25)).heap.size = w.heap.size + 2 by simp] at h2
    exact h2
  · exact (((Below.refl _ _).alloc (Nat.le_refl _) _).alloc (by simp) _).alloc (by simp; omega) _
/-- What not tells, and where it lies. -/
def NotR (f : Flt) (a : Option Addr) (c : Nat) (b : Option Addr) (d : Nat) (w w' : World) (e : Ending) : Prop := ∃ h : Nat, e = .returned (.agg #[.int .i64 3, .string ⟨#[]⟩, .string ⟨#[]⟩, .slice none 0 0, .slice (some ⟨h, 0, none⟩) 1 1]) ∧ w.heap.size ≤ h ∧ RwF w' h (fltC f a c b d).toArray
set_option maxHeartbeats 1000000 in
set_option maxRecDepth 100000 in
theorem not_row (f : Flt) (a : Option Addr) (c : Nat) (b : Option Addr) (d : Nat) (w : World) :
    Calls Try.prog 10 #[.agg #[.int .i64 f.kind, bs f.name, bs f.op, .slice a f.vals.length c, .slice b f.parts.length d]] w fun e w' => NotR f a c b d w w' e ∧ Below w.heap.size w w' := by
  have HR := Lib.hid (fun W h (hr : RwF W h (fltC f a c b d).toArray) => hr)
  have HE := Lib.hid (show ∀ (e : Ending) (W : World) (h : Nat), e = .returned (.agg #[.int .i64 3, .string ⟨#[]⟩, .string ⟨#[]⟩, .slice none 0 0, .slice (some ⟨h, 0, none⟩) 1 1]) → w.heap.size ≤ h → RwF W h (fltC f a c b d).toArray → NotR f a c b d w W e from fun e W h h1 h2 h3 => ⟨h, h1, h2, h3⟩)
  obtain ⟨N, hN⟩ : ∃ N, N = NotR f a c b d w := ⟨_, rfl⟩
  rw [← hN] at HE ⊢
  unfold fltC at HE
  obtain ⟨sn, en, _⟩ := bs_bytes f.name
  obtain ⟨so, eo, _⟩ := bs_bytes f.op
  obtain ⟨k, hqk⟩ : ∃ x, x = f.kind := ⟨_, rfl⟩
  obtain ⟨nv, hqv⟩ : ∃ x, x = f.vals.length := ⟨_, rfl⟩
  obtain ⟨np, hqp⟩ : ∃ x, x = f.parts.length := ⟨_, rfl⟩
  rw [en, eo, ← hqk, ← hqv, ← hqp] at HE
  rw [en, eo, ← hqk, ← hqv, ← hqp]
  clear en eo hqk hqv hqp hN HR
  go_enter Try.func10, Try.ntmps10
  go_wp2_with fail
  refine bodyPost_ret (v := .agg #[.int .i64 3, .string ⟨#[]⟩, .string ⟨#[]⟩, .slice none 0 0, .slice (some ⟨w.heap.size + 2, 0, none⟩) 1 1]) (by simp [results, Try.results10, go_sem, *]) rfl ⟨HE.out _ _ (w.heap.size + 2) rfl (by omega) ?_, ?_⟩
  · have h2 := RwF.new ((w.alloc (.cells #[.int .i64 k, .string sn, .string so, .slice a nv c, .slice b np d] 25)).alloc (.cells #[.int .i64 3, .string ⟨#[]⟩, .string ⟨#[]⟩, .slice none 0 0, .slice (some ⟨w.heap.size + 1 + 1, 0, none⟩) 1 1] 25)) #[.int .i64 k, .string sn, .string so, .slice a nv c, .slice b np d]
    rw [show ((w.alloc (.cells #[.int .i64 k, .string sn, .string so, .slice a nv c, .slice b np d] 25)).alloc (.cells #[.int .i64 3, .string ⟨#[]⟩, .string ⟨#[]⟩, .slice none 0 0, .slice (some ⟨w.heap.size + 1 + 1, 0, none⟩) 1 1] 25)).heap.size = w.heap.size + 2 by simp] at h2
    exact h2
  · exact (((Below.refl _ _).alloc (Nat.le_refl _) _).alloc (by simp) _).alloc (by simp; omega) _
end Go.Proofs.Ytcajcmaldnmbjaa.Ev
namespace Go.Proofs.Ytcajcmaldnmbjaa.Ck
open Go.RowKit Go.Proofs.Ytcajcmaldnmbjaa.Fl Go.Proofs.Ytcajcmaldnmbjaa.Tk
set_option linter.unusedVariables false
set_option linter.unusedSimpArgs false

theorem bs_one (l : List Nm) : ∀ u ∈ l.map bs, u.oneCell' = true := by
  intro u hu
  obtain ⟨x, _, rfl⟩ := List.mem_map.1 hu
  rfl
theorem rowLt {W : World} {base n k : Nat} {t : TypeId} {v : Value} {xs : List Value} (h : W.ownsRow base t k v n xs) {g : Nat} (hg : v.ownBlock = some g) : base ≤ g ∧ g < W.heap.size := by
  rcases h.2 with ⟨rfl, _⟩ | ⟨g', cap, cur, rfl, hb, hh, _⟩
  · simp [Value.ownBlock] at hg
  · simp [Value.ownBlock] at hg
    subst hg
    exact ⟨hb, (Array.getElem?_eq_some_iff.1 hh).1⟩
theorem rowKeep {W V : World} {base n k : Nat} {t : TypeId} {v : Value} {xs : List Value} (h : W.ownsRow base t k v n xs) (hk : ∀ g, v.ownBlock = some g → V.heap[g]? = W.heap[g]?) : V.ownsRow base t k v n xs := by
  refine ⟨h.1, ?_⟩
  rcases h.2 with h | ⟨g, cap, cur, rfl, hb, hh, r⟩
  · exact .inl h
  · exact .inr ⟨g, cap, cur, rfl, hb, (hk g rfl).trans hh, r⟩
theorem infoS : (Try.prog.info? 9).map (fun i => (i.zero, i.size, i.bytes)) = some (some (.string ⟨#[]⟩), 1, 16) := by kernel_rfl
theorem row_wide {W : World} {base base' n k : Nat} {t : TypeId} {v : Value} {xs : List Value} (h : W.ownsRow base t k v n xs) (hb : base' ≤ base) : W.ownsRow base' t k v n xs := by
  refine ⟨h.1, ?_⟩
  rcases h.2 with h | ⟨g, cap, cur, e, hg, r⟩
  · exact .inl h
  · exact .inr ⟨g, cap, cur, e, Nat.le_trans hb hg, r⟩
theorem own_below {k : Nat} {w W V : World} {n : Nat} {t : TypeId} {u : Value} {xs : List Value} (hB : Below w.heap.size w W) (h : W.ownsRow w.heap.size t k u n xs) (hg : W.grownBy V u.ownBlock) : Below w.heap.size w V :=
  hB.trans ⟨hg.os, hg.tape, hg.output, hg.size, fun i hi => hg.block i (Nat.lt_of_lt_of_le hi hB.size) (by
    intro e
    rcases h.2 with ⟨rfl, _⟩ | ⟨g, cap, cur, rfl, hl, _⟩
    · simp [Value.ownBlock] at e
    · simp [Value.ownBlock] at e; omega)⟩
theorem gr_own {z : Nat} {W V : World} (hz : z ≤ W.heap.size) (hg : W.grownBy V (Value.ownBlock (.slice none 0 0))) : Below z W V :=
  ⟨hg.os, hg.tape, hg.output, hg.size, fun i hi => hg.block i (Nat.lt_of_lt_of_le hi hz) (by simp [Value.ownBlock])⟩
/-- A row of names of the call's own; nil, if there are none. -/
def RowEnd (z : Nat) (L : List Nm) (w' : World) (e : Ending) : Prop := ∃ v, e = .returned v ∧ w'.ownsRow z 9 1 v L.length (L.map bs) ∧ (L = [] → v = .slice none 0 0)
def RnOk (f : Flt) : Prop := ∀ (a : Option Addr) (c : Nat) (b : Option Addr) (d : Nat) (w : World), FltAt w (Old w.heap.size) f a b → (nms f).length ≤ 2000000 →
  Calls Try.prog 17 #[.agg #[.int .i64 f.kind, bs f.name, bs f.op, .slice a f.vals.length c, .slice b f.parts.length d]] w fun e w' => RowEnd w.heap.size (nms f) w' e ∧ Below w.heap.size w w'
def RnR (pre : List Nm) (ps : List Flt) (w : World) (va vi : Value) (wr : World) : Prop :=
  ∃ j : Nat, j ≤ ps.length ∧ vi = .int .i64 j ∧ wr.ownsRow w.heap.size 9 1 va (pre ++ nmsL (ps.take j)).length ((pre ++ nmsL (ps.take j)).map bs) ∧ Hid (pre ++ nmsL (ps.take j) = [] → va = .slice none 0 0) ∧ Below w.heap.size w wr
set_option maxHeartbeats 8000000 in
set_option maxRecDepth 100000 in
theorem rn_ok (f : Flt) (ih : ∀ q ∈ f.parts, RnOk q) : RnOk f := by
  obtain ⟨i0, hi, hz0, hz1, hz2⟩ := info_cut infoS
  obtain ⟨k, nm, o, vs, ps⟩ := f
  intro a c b d w hF h5k
  simp only [Flt.kind, Flt.name, Flt.op, Flt.vals, Flt.parts] at ih ⊢
  obtain ⟨sn, en, hsn⟩ := bs_bytes nm
  obtain ⟨so, eo, hso⟩ := bs_bytes o
  rw [en, eo]
  have HEN := Lib.hid en
  have IH := Lib.hid ih
  have HP := Lib.hid hF.parts
  simp only [Flt.parts] at HP
  have HSN := Lib.hid hsn
  have hlen : ps.length ≤ 9223372036854775807 := by have := hF.small.2.2.2.2; simp only [Flt.parts] at this; unfold maxLen at this; omega
  obtain ⟨n, hn⟩ : ∃ n, n = vs.length := ⟨_, rfl⟩
  obtain ⟨l, hl⟩ : ∃ n, n = ps.length := ⟨_, rfl⟩
  have HL := Lib.hid hl
  rw [← hl] at hlen
  have HSZ := Lib.hid (show (nmsL ps).length ≤ 2000000 by rw [nms, List.length_append] at h5k; omega)
  rw [← hn, ← hl]
  clear ih hF en eo hso hn hl h5k
  obtain ⟨w1, hw1⟩ : ∃ v, v = w.alloc (.cells #[.int .i64 k, .string sn, .string so, .slice a n c, .slice b l d] 25) := ⟨_, rfl⟩
  have X1 := Lib.hid (show Box w1 w.heap.size (.int .i64 k) (.string sn) (.string so) (.slice a n c) (.slice b l d) by rw [hw1]; exact Box.new ..)
  have HB := Lib.hid (show Below w.heap.size w w1 by rw [hw1]; exact (Below.refl _ _).alloc (Nat.le_refl _) _)
  have HW := Lib.hid hw1
  clear hw1
  obtain ⟨p0, p1, p2, p3, p4⟩ := X1.out
  by_cases hnm : nm = []
  · have HPQ := Lib.hid (show nms (.mk k nm o vs ps) = [] ++ nmsL ps by rw [nms, if_pos hnm])
    obtain rfl : sn = ⟨#[]⟩ := eq_list (by rw [hsn, hnm])
    clear hsn hnm
    go_enter Try.func17, Try.ntmps17
    go_wp2_with fail
    rw [← HW.out]
    go_loopw [3, 4] (fun va vi wr => RnR [] ps w1 va vi wr) (fun _ vi _ => l - (intOf vi).toNat)
    case atStart => exact ⟨0, Nat.zero_le _, rfl, by simpa [nmsL] using World.ownsRow_nil w1 w1.heap.size 9 1, Lib.hid (fun _ => rfl), Below.refl _ _⟩
    case round =>
      obtain ⟨j, hk, rfl, hrow, hnil, hBB⟩ := hrel
      have HK := Lib.hid hk
      have HBB := Lib.hid hBB
      have HBW := Lib.hid (HB.out.trans (hBB.mono HB.out.size))
      have X3 := Lib.hid (X1.out.later hBB)
      have HRO := Lib.hid hrow
      have HNI := Lib.hid hnil.out
      obtain ⟨p0, p1, p2, p3, p4⟩ := X3.out
      clear hk hBB hrow hnil
      by_cases hlt : j < l
      · have hlz : (j : Int) < (l : Int) := by omega
        have hku : j < ps.length := by rw [← HL.out]; exact hlt
        obtain ⟨g, o', a1, c1, b1, d1, hg, hgl, h5, hf⟩ := (HP.out.later HBW.out).get j hku
        obtain ⟨U, hU⟩ : ∃ V, V = ps[j] := ⟨_, rfl⟩
        rw [← hU] at h5 hf
        have HUK := Lib.hid (show ps[j]? = some U by rw [hU]; exact List.getElem?_eq_getElem hku)
        have CI := Lib.hid (fun W h1 h2 => IH.out U (List.mem_of_getElem? HUK.out) a1 c1 b1 d1 W h1 h2)
        have HFU4 := Lib.hid (hf.wide HBW.out.size)
        have hgw : g < wr.heap.size := Nat.lt_of_lt_of_le hgl HBW.out.size
        subst hg
        obtain ⟨e0, e1, e2, e3, e4⟩ := h5
        rw [Nat.zero_add] at e0 e1 e2 e3 e4
        obtain ⟨un, hun, _⟩ := bs_bytes U.name
        obtain ⟨uo, huo, _⟩ := bs_bytes U.op
        rw [hun] at e1 CI
        rw [huo] at e2 CI
        obtain ⟨uk, huk⟩ : ∃ x, x = U.kind := ⟨_, rfl⟩
        obtain ⟨uv, huv⟩ : ∃ x, x = U.vals.length := ⟨_, rfl⟩
        obtain ⟨up, hup⟩ : ∃ x, x = U.parts.length := ⟨_, rfl⟩
        rw [← huk] at e0 CI
        rw [← huv] at e3 CI
        rw [← hup] at e4 CI
        have HU5 := Lib.hid (show (nms U).length ≤ 2000000 by have := nmsL_one (List.mem_of_getElem? HUK.out); have := HSZ.out; omega)
        have HLE := Lib.hid (show ([] ++ nmsL (ps.take j)).length ≤ 3000000 by have h1 := nmsL_take_le ps j; have h2 := HSZ.out; rw [List.length_append]; simp only [List.length_nil]; omega)
        have HEQ := Lib.hid (show [] ++ nmsL (ps.take (j + 1)) = ([] ++ nmsL (ps.take j)) ++ nms U by rw [nmsL_step HUK.out, List.append_assoc])
        clear hU hf hgl hun huo huk huv hup
        by_cases hne : nms U = []
        · have HNE := Lib.hid hne
          clear hne
          go_wp2_with fail
          refine Calls.mono (CI.out _ HFU4.out HU5.out) ?_
          rintro e w5 ⟨⟨v2, rfl, hrow2, hnil2⟩, hb⟩
          have HB5 := Lib.hid (HBB.out.trans (hb.mono HBB.out.size))
          have hrow5 := rowKeep HRO.out (V := w5) (fun g hg => hb.block g (rowLt HRO.out hg).2)
          have HSB := Lib.hid (show w1.heap.size ≤ w5.heap.size from HB5.out.size)
          have HRO5 := Lib.hid hrow5
          clear hb
          obtain rfl := hnil2 HNE.out
          clear hnil2 hrow2
          go_wp2_with (first
            | (at_builtin; refine wpList_append_own_none rfl _ _ 33 rfl w1.heap.size 9 i0 1 Try.underlying33 hi _ _ _ rfl hrow5 rfl ?_)
            | go_in)
          go_roundw
          case rel =>
            refine ⟨j + 1, by have := HL.out; omega, by go_num, ?_, Lib.hid ?_, HB5.out⟩
            · rw [HEQ.out, HNE.out, List.append_nil]; exact HRO5.out
            · rw [HEQ.out, HNE.out, List.append_nil]; exact HNI.out
          case measure => simp [intOf]; omega
        · have HNE := Lib.hid hne
          clear hne
          go_wp2_with fail
          refine Calls.mono (CI.out _ HFU4.out HU5.out) ?_
          rintro e w5 ⟨⟨v2, rfl, hrow2, hnil2⟩, hb⟩
          have HB5 := Lib.hid (HBB.out.trans (hb.mono HBB.out.size))
          have hrow5 := rowKeep HRO.out (V := w5) (fun g hg => hb.block g (rowLt HRO.out hg).2)
          have HSB := Lib.hid (show w1.heap.size ≤ w5.heap.size from HB5.out.size)
          have HRO5 := Lib.hid hrow5
          clear hb
          clear hnil2
          have hm0 : 0 < (nms U).length := List.length_pos_iff.2 HNE.out
          obtain ⟨g2, c2, rfl, hc2⟩ : ∃ g2 c2, v2 = .slice (some ⟨g2, 0, none⟩) (nms U).length c2 ∧ ∀ j u, ((nms U).map bs)[j]? = some u → w5.cell? ((⟨g2, 0, none⟩ : Addr).add j) = some u := by
            rcases hrow2.2 with ⟨_, h⟩ | ⟨g2, c2, cur, rfl, _⟩
            · omega
            · exact ⟨g2, c2, rfl, hrow2.cells rfl⟩
          have HC2 := Lib.hid hc2
          clear hrow2 hc2
          go_wp2_with (first
            | (at_builtin; refine wpList_append_own _ rfl _ _ 33 rfl w1.heap.size 9 i0 (.string ⟨#[]⟩) 1 16 Try.underlying33 hi hz0 hz1 hz2 rfl (by decide) _ _ _ rfl hrow5 ⟨g2, 0, none⟩ (nms U).length c2 ((nms U).map bs) rfl (by simp) HC2.out (bs_one _) (by have := HLE.out; have := HU5.out; unfold maxLen; omega) (by have := HLE.out; have := HU5.out; omega) HSB.out ?_; intro v' w6 hrow6 hg6 hn6)
            | go_in)
          have HB6 := Lib.hid (own_below HB5.out HRO5.out hg6)
          have HRO6 := Lib.hid hrow6
          clear hn6 hrow6 hg6
          go_roundw
          case rel =>
            refine ⟨j + 1, by have := HL.out; omega, by go_num, ?_, Lib.hid ?_, HB6.out⟩
            · rw [HEQ.out, List.map_append, List.length_append]; exact HRO6.out
            · intro h; rw [HEQ.out] at h; exact absurd (List.append_eq_nil_iff.1 h).2 HNE.out
          case measure => simp [intOf]; omega
      · have hlz : ¬ (j : Int) < (l : Int) := by omega
        have HE : [] ++ nmsL (ps.take j) = nms (.mk k nm o vs ps) := by rw [show j = ps.length by have := HL.out; have := HK.out; omega, List.take_length, ← HPQ.out]
        have HF := Lib.hid (show _ ∧ _ from ⟨HRO.out, HNI.out⟩)
        rw [HE] at HF
        clear HE HRO HNI
        have HRW := Lib.hid (row_wide HF.out.1 HB.out.size)
        go_wp2_with fail
        go_ret
        exact ⟨⟨_, rfl, HRW.out, HF.out.2⟩, HBW.out⟩
  · have HPQ := Lib.hid (show nms (.mk k nm o vs ps) = [nm] ++ nmsL ps by rw [nms, if_neg hnm])
    obtain ⟨q0, q1, q2⟩ := ne_list (x := sn) (y := ⟨#[]⟩) (by rw [hsn]; exact hnm)
    have q3 : sn.toList.isEmpty = false := by rw [List.isEmpty_eq_false_iff, Lib.toList_data, hsn]; exact hnm
    clear hsn hnm
    obtain ⟨w2, hw2⟩ : ∃ v, v = w1.alloc (.cells #[.string sn] 9) := ⟨_, rfl⟩
    have HB2 := Lib.hid (show Below w1.heap.size w1 w2 by rw [hw2]; exact (Below.refl _ _).alloc (Nat.le_refl _) _)
    have HW2 := Lib.hid hw2
    have HSZ1 := Lib.hid (show w1.heap.size = w.heap.size + 1 by rw [HW.out]; simp)
    have HNEW := Lib.hid (show ∀ j u, [Value.string sn][j]? = some u → w2.cell? ((⟨w.heap.size + 1, 0, none⟩ : Addr).add j) = some u by rw [hw2, ← HSZ1.out]; exact cell_one_new _ _ _)
    clear hw2
    obtain ⟨p0, p1, p2, p3, p4⟩ := X1.out.later HB2.out
    go_enter Try.func17, Try.ntmps17
    go_wp2_with (first
      | (at_builtin; rw [← HW.out, ← HW2.out]; refine wpList_append_own_at _ rfl _ _ 33 rfl w1.heap.size 9 i0 (.string ⟨#[]⟩) 1 16 Try.underlying33 hi hz0 hz1 hz2 rfl (by decide) _ _ _ rfl (World.ownsRow_nil w2 w1.heap.size 9 1) ⟨w.heap.size + 1, 0, none⟩ 1 1 [.string sn] rfl rfl HNEW.out (by intro u hu; simp at hu; rw [hu]; rfl) (by unfold maxLen; omega) (by omega) HB2.out.size ?_; intro v' w3 hrow3 hg3 hn3 hat3; obtain ⟨r0, r1, r2, r3, r4⟩ := X1.out.later (HB2.out.trans (gr_own HB2.out.size hg3)); clear hn3 hat3)
      | go_in)
    go_loopw [3, 4] (fun va vi wr => RnR [nm] ps w1 va vi wr) (fun _ vi _ => l - (intOf vi).toNat)
    case atStart => exact ⟨0, Nat.zero_le _, rfl, by simpa [nmsL, HEN.out] using hrow3, Lib.hid (by simp), HB2.out.trans (gr_own HB2.out.size hg3)⟩
    case round =>
      obtain ⟨j, hk, rfl, hrow, hnil, hBB⟩ := hrel
      have HK := Lib.hid hk
      have HBB := Lib.hid hBB
      have HBW := Lib.hid (HB.out.trans (hBB.mono HB.out.size))
      have X3 := Lib.hid (X1.out.later hBB)
      have HRO := Lib.hid hrow
      have HNI := Lib.hid hnil.out
      obtain ⟨p0, p1, p2, p3, p4⟩ := X3.out
      clear hk hBB hrow hnil
      by_cases hlt : j < l
      · have hlz : (j : Int) < (l : Int) := by omega
        have hku : j < ps.length := by rw [← HL.out]; exact hlt
        obtain ⟨g, o', a1, c1, b1, d1, hg, hgl, h5, hf⟩ := (HP.out.later HBW.out).get j hku
        obtain ⟨U, hU⟩ : ∃ V, V = ps[j] := ⟨_, rfl⟩
        rw [← hU] at h5 hf
        have HUK := Lib.hid (show ps[j]? = some U by rw [hU]; exact List.getElem?_eq_getElem hku)
        have CI := Lib.hid (fun W h1 h2 => IH.out U (List.mem_of_getElem? HUK.out) a1 c1 b1 d1 W h1 h2)
        have HFU4 := Lib.hid (hf.wide HBW.out.size)
        have hgw : g < wr.heap.size := Nat.lt_of_lt_of_le hgl HBW.out.size
        subst hg
        obtain ⟨e0, e1, e2, e3, e4⟩ := h5
        rw [Nat.zero_add] at e0 e1 e2 e3 e4
        obtain ⟨un, hun, _⟩ := bs_bytes U.name
        obtain ⟨uo, huo, _⟩ := bs_bytes U.op
        rw [hun] at e1 CI
        rw [huo] at e2 CI
        obtain ⟨uk, huk⟩ : ∃ x, x = U.kind := ⟨_, rfl⟩
        obtain ⟨uv, huv⟩ : ∃ x, x = U.vals.length := ⟨_, rfl⟩
        obtain ⟨up, hup⟩ : ∃ x, x = U.parts.length := ⟨_, rfl⟩
        rw [← huk] at e0 CI
        rw [← huv] at e3 CI
        rw [← hup] at e4 CI
        have HU5 := Lib.hid (show (nms U).length ≤ 2000000 by have := nmsL_one (List.mem_of_getElem? HUK.out); have := HSZ.out; omega)
        have HLE := Lib.hid (show ([nm] ++ nmsL (ps.take j)).length ≤ 3000000 by have h1 := nmsL_take_le ps j; have h2 := HSZ.out; rw [List.length_append]; simp only [List.length_cons, List.length_nil]; omega)
        have HEQ := Lib.hid (show [nm] ++ nmsL (ps.take (j + 1)) = ([nm] ++ nmsL (ps.take j)) ++ nms U by rw [nmsL_step HUK.out, List.append_assoc])
        clear hU hf hgl hun huo huk huv hup
        by_cases hne : nms U = []
        · have HNE := Lib.hid hne
          clear hne
          go_wp2_with fail
          refine Calls.mono (CI.out _ HFU4.out HU5.out) ?_
          rintro e w5 ⟨⟨v2, rfl, hrow2, hnil2⟩, hb⟩
          have HB5 := Lib.hid (HBB.out.trans (hb.mono HBB.out.size))
          have hrow5 := rowKeep HRO.out (V := w5) (fun g hg => hb.block g (rowLt HRO.out hg).2)
          have HSB := Lib.hid (show w1.heap.size ≤ w5.heap.size from HB5.out.size)
          have HRO5 := Lib.hid hrow5
          clear hb
          obtain rfl := hnil2 HNE.out
          clear hnil2 hrow2
          go_wp2_with (first
            | (at_builtin; refine wpList_append_own_none rfl _ _ 33 rfl w1.heap.size 9 i0 1 Try.underlying33 hi _ _ _ rfl hrow5 rfl ?_)
            | go_in)
          go_roundw
          case rel =>
            refine ⟨j + 1, by have := HL.out; omega, by go_num, ?_, Lib.hid ?_, HB5.out⟩
            · rw [HEQ.out, HNE.out, List.append_nil]; exact HRO5.out
            · rw [HEQ.out, HNE.out, List.append_nil]; exact HNI.out
          case measure => simp [intOf]; omega
        · have HNE := Lib.hid hne
          clear hne
          go_wp2_with fail
          refine Calls.mono (CI.out _ HFU4.out HU5.out) ?_
          rintro e w5 ⟨⟨v2, rfl, hrow2, hnil2⟩, hb⟩
          have HB5 := Lib.hid (HBB.out.trans (hb.mono HBB.out.size))
          have hrow5 := rowKeep HRO.out (V := w5) (fun g hg => hb.block g (rowLt HRO.out hg).2)
          have HSB := Lib.hid (show w1.heap.size ≤ w5.heap.size from HB5.out.size)
          have HRO5 := Lib.hid hrow5
          clear hb
          clear hnil2
          have hm0 : 0 < (nms U).length := List.length_pos_iff.2 HNE.out
          obtain ⟨g2, c2, rfl, hc2⟩ : ∃ g2 c2, v2 = .slice (some ⟨g2, 0, none⟩) (nms U).length c2 ∧ ∀ j u, ((nms U).map bs)[j]? = some u → w5.cell? ((⟨g2, 0, none⟩ : Addr).add j) = some u := by
            rcases hrow2.2 with ⟨_, h⟩ | ⟨g2, c2, cur, rfl, _⟩
            · omega
            · exact ⟨g2, c2, rfl, hrow2.cells rfl⟩
          have HC2 := Lib.hid hc2
          clear hrow2 hc2
          go_wp2_with (first
            | (at_builtin; refine wpList_append_own _ rfl _ _ 33 rfl w1.heap.size 9 i0 (.string ⟨#[]⟩) 1 16 Try.underlying33 hi hz0 hz1 hz2 rfl (by decide) _ _ _ rfl hrow5 ⟨g2, 0, none⟩ (nms U).length c2 ((nms U).map bs) rfl (by simp) HC2.out (bs_one _) (by have := HLE.out; have := HU5.out; unfold maxLen; omega) (by have := HLE.out; have := HU5.out; omega) HSB.out ?_; intro v' w6 hrow6 hg6 hn6)
            | go_in)
          have HB6 := Lib.hid (own_below HB5.out HRO5.out hg6)
          have HRO6 := Lib.hid hrow6
          clear hn6 hrow6 hg6
          go_roundw
          case rel =>
            refine ⟨j + 1, by have := HL.out; omega, by go_num, ?_, Lib.hid ?_, HB6.out⟩
            · rw [HEQ.out, List.map_append, List.length_append]; exact HRO6.out
            · intro h; rw [HEQ.out] at h; exact absurd (List.append_eq_nil_iff.1 h).2 HNE.out
          case measure => simp [intOf]; omega
      · have hlz : ¬ (j : Int) < (l : Int) := by omega
        have HE : [nm] ++ nmsL (ps.take j) = nms (.mk k nm o vs ps) := by rw [show j = ps.length by have := HL.out; have := HK.out; omega, List.take_length, ← HPQ.out]
        have HF := Lib.hid (show _ ∧ _ from ⟨HRO.out, HNI.out⟩)
        rw [HE] at HF
        clear HE HRO HNI
        have HRW := Lib.hid (row_wide HF.out.1 HB.out.size)
        go_wp2_with fail
        go_ret
        exact ⟨⟨_, rfl, HRW.out, HF.out.2⟩, HBW.out⟩
theorem rn_all : ∀ (N : Nat) (f : Flt), sz f ≤ N → RnOk f
  | 0, f, h => by have := sz_pos f; omega
  | N + 1, f, h => rn_ok f fun q hq => rn_all N q (by
      cases f
      simp only [Flt.parts] at hq
      have := sz_mem hq
      rw [sz] at h
      omega)
end Go.Proofs.Ytcajcmaldnmbjaa.Ck
