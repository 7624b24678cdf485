/-
  Contracts of the statements' small and of the document's Attrs: are names, and attributes, few and short? The world is as it was.
-/
import Derived.Test.YtcajcmaldnmbjaaMl05
import Derived.WalkSmall
import Derived.Deep.RegionHeldLaw
import Derived.Deep.RegionHeld3
import Derived.Maps.Own
/-
  Contract of package eval's find: the first attribute of a name, by the list or by the map. The world is as it was, but for new blocks.
-/
namespace Go.Proofs.Ytcajcmaldnmbjaa.Ev
open Go.RowKit Go.Maps Go.Proofs.Ytcajcmaldnmbjaa.Fl Go.Proofs.Ytcajcmaldnmbjaa.Tk Go.Proofs.Ytcajcmaldnmbjaa.Ck
set_option linter.unusedVariables false
set_option linter.unusedSimpArgs false

theorem neq_no (w : World) : Sem.run Try.prog (binOp BinOp.neq 38 (Value.map none) (Value.map none)) w = .ok (.bool false) w := by kernel_rfl
theorem neq_yes (b : Nat) (w : World) : Sem.run Try.prog (binOp BinOp.neq 38 (Value.map (some b)) (Value.map none)) w = .ok (.bool true) w := by kernel_rfl
def FdEnd (la : Option Addr) (l : List Att) (x : List UInt8) (e : Ending) : Prop := ∃ v, e = .returned v ∧ PtrOf la l x v
def FdR (l : List Att) (s : List UInt8) (w : World) (vi : Value) (wr : World) : Prop :=
  ∃ k : Nat, k ≤ l.length ∧ vi = .int .i64 k ∧ Hid (∀ j y, j < k → l[j]? = some y → ¬ y.name = s) ∧ Below w.heap.size w wr
set_option maxHeartbeats 4000000 in
set_option maxRecDepth 100000 in
theorem evFind_any (l : List Att) (la : Option Addr) (u1 u2 : Value) (s : ByteArray) (hs : s.size ≤ maxLen) (w : World) (hA : AttsAt w (Old w.heap.size) la l) (hK : LkAt w la l u1 u2) :
    Calls Try.prog 21 #[.agg #[u1, u2], .string s] w fun e w' => FdEnd la l s.data.toList e ∧ Below w.heap.size w w' := by
  rcases hK with ⟨c, rfl, rfl⟩ | ⟨rfl, b, m, g, o, rfl, rfl, D, hown, hD⟩
  · obtain ⟨n, hn⟩ : ∃ n, n = l.length := ⟨_, rfl⟩
    have HN := Lib.hid hn
    have hbig : n ≤ 9223372036854775807 := by have := hA.1; unfold maxLen at this; omega
    have HA := Lib.hid hA
    rw [← hn]
    clear hn hA
    obtain ⟨w1, hw1⟩ : ∃ v, v = w.alloc (.cells #[.slice la n c, .map none] 40) := ⟨_, rfl⟩
    have HB1 := Lib.hid (show Below w.heap.size w w1 by rw [hw1]; exact (Below.refl _ _).alloc (Nat.le_refl _) _)
    have p0 : w1.cell? ⟨w.heap.size, 0, none⟩ = some (.slice la n c) := by rw [hw1]; simp [go_sem]
    have p1 : w1.cell? ⟨w.heap.size, 1, none⟩ = some (.map none) := by rw [hw1]; simp [go_sem]
    have HW1 := Lib.hid hw1
    clear hw1
    have hneq := neq_no
    go_enter Try.func21, Try.ntmps21
    go_wp2_with fail
    rw [← HW1.out]
    go_loopw [16] (fun vi wr => FdR l s.data.toList w1 vi wr) (fun vi _ => n - (intOf vi).toNat)
    case atStart => exact ⟨0, Nat.zero_le _, rfl, Lib.hid (fun j y hj => by omega), Below.refl _ _⟩
    case round =>
      obtain ⟨k, hk, rfl, hno, hB⟩ := hrel
      have HK := Lib.hid hk
      have HNO := Lib.hid hno
      have HB := Lib.hid hB
      have q0 := (hB.cell (p := ⟨w.heap.size, 0, none⟩) (World.block_lt_of_cell? w1 _ p0)).trans p0
      have q1 := (hB.cell (p := ⟨w.heap.size, 1, none⟩) (World.block_lt_of_cell? w1 _ p1)).trans p1
      clear hk hno hB
      by_cases hlt : k < n
      · have hlz : (k : Int) < (n : Int) := by omega
        have hkl : k < l.length := by rw [← HN.out]; exact hlt
        obtain ⟨g, o, hg, hgl, hc⟩ := (HA.out.later (HB1.out.trans (HB.out.mono HB1.out.size))).2.2 (by omega)
        obtain ⟨c0, -, -, -⟩ := hc k hkl
        obtain ⟨U, hU⟩ : ∃ V, V = l[k] := ⟨_, rfl⟩
        have HU := Lib.hid (show l[k]? = some U by rw [hU]; exact List.getElem?_eq_getElem hkl)
        rw [← hU] at c0
        obtain ⟨x, e0, hx⟩ := bs_bytes U.name
        rw [e0] at c0
        subst hg
        have HX := Lib.hid hx
        clear hc hU hx hgl e0
        by_cases he : x.data.toList = s.data.toList
        · obtain rfl := eq_list he
          have HP := Lib.hid (show PtrOf (some ⟨g, o, none⟩) l x.data.toList (.pointer (some ⟨g, o + k * 4, none⟩)) from
            .inr ⟨g, o, k, U, rfl, rfl, HU.out, attOf_at l x.data.toList k U HU.out HX.out.symm HNO.out⟩)
          clear he
          go_wp2_with fail
          go_ret
          exact ⟨⟨_, rfl, HP.out⟩, HB1.out.trans (HB.out.mono HB1.out.size)⟩
        · obtain ⟨z0, z1, z2⟩ := ne_list he
          have HE := Lib.hid he
          clear he
          go_wp2_with fail
          go_roundw
          case rel =>
            exact ⟨k + 1, by have := HN.out; omega, by go_num, Lib.hid (fun j y hj hy => by
              rcases Nat.lt_or_ge j k with h | h
              · exact HNO.out j y h hy
              · obtain rfl : j = k := by omega
                rw [HU.out] at hy
                cases hy
                intro e
                exact HE.out (by rw [HX.out, e])), HB.out⟩
          case measure => simp [intOf]; omega
      · have hlz : ¬ (k : Int) < (n : Int) := by omega
        have HP := Lib.hid (show PtrOf la l s.data.toList (.pointer none) from .inl ⟨rfl, attOf_none l _ fun y hy => by
          obtain ⟨j, hj, e⟩ := List.getElem_of_mem hy
          exact HNO.out j y (by have := HN.out; omega) (by rw [List.getElem?_eq_getElem hj, e])⟩)
        go_wp2_with fail
        go_ret
        exact ⟨⟨_, rfl, HP.out⟩, HB1.out.trans (HB.out.mono HB1.out.size)⟩
  · obtain ⟨w1, hw1⟩ : ∃ v, v = w.alloc (.cells #[.slice none 0 0, .map (some b)] 40) := ⟨_, rfl⟩
    have HB1 := Lib.hid (show Below w.heap.size w w1 by rw [hw1]; exact (Below.refl _ _).alloc (Nat.le_refl _) _)
    have hown1 := hown.kept (gr_of_below (r := none) (show Below w.heap.size w (w.alloc (.cells #[.slice none 0 0, .map (some b)] 40)) from (Below.refl _ _).alloc (Nat.le_refl _) _)) (by simp)
    obtain ⟨v, ps, hrun, hv⟩ := hown1.lookup lawP Try.underlying38 (zeroP _) (zp := []) (zd := .nil) (by rfl) (key_st hs)
    have HP := Lib.hid (show PtrOf (some ⟨g, o, none⟩) l s.data.toList v by
      rw [hD] at hv
      rcases posD_cases o 0 l s.data.toList with ⟨h1, h2⟩ | ⟨k, a, h1, h2, h3⟩
      · rw [h1] at hv
        exact .inl ⟨pR_nil hv, h2⟩
      · rw [h3, Nat.zero_add] at hv
        exact .inr ⟨g, o, k, a, rfl, pR_at hv, h1, h2⟩)
    have HW1 := Lib.hid hw1
    clear hw1 hown hown1 hv hD hA
    have hneq := neq_yes b
    go_enter Try.func21, Try.ntmps21
    go_wp2_with fail
    go_ret
    rw [← HW1.out]
    exact ⟨⟨_, rfl, HP.out⟩, HB1.out⟩
end Go.Proofs.Ytcajcmaldnmbjaa.Ev
/-
  Contracts of package eval: does one of a filter's parts hold, or not hold (slices.ContainsFunc), if its parts' contracts stand? Memory that was there is left as it was.
-/
namespace Go.Proofs.Ytcajcmaldnmbjaa.Ev
open Go.RowKit Go.Maps Go.Proofs.Ytcajcmaldnmbjaa.Fl Go.Proofs.Ytcajcmaldnmbjaa.Tk Go.Proofs.Ytcajcmaldnmbjaa.Ck
set_option linter.unusedVariables false
set_option linter.unusedSimpArgs false

/-- Block p holds these two. -/
def Pr (W : World) (p : Nat) (x y : Value) : Prop := W.cell? ⟨p, 0, none⟩ = some x ∧ W.cell? ⟨p, 1, none⟩ = some y
theorem Pr.new (w : World) (x y : Value) (t : TypeId) : Pr (w.alloc (.cells #[x, y] t)) w.heap.size x y := by
  refine ⟨?_, ?_⟩ <;> simp [go_sem]
theorem Pr.lt {W : World} {p : Nat} {x y : Value} (h : Pr W p x y) : p < W.heap.size := World.block_lt_of_cell? W ⟨p, 0, none⟩ h.1
theorem Pr.later {W V : World} {p : Nat} {x y : Value} (h : Pr W p x y) (hb : Below W.heap.size W V) : Pr V p x y :=
  ⟨(hb.cell (p := ⟨p, 0, none⟩) h.lt).trans h.1, (hb.cell (p := ⟨p, 1, none⟩) h.lt).trans h.2⟩
/-- The attributes, in memory and laid ready: a list's slice, a map's block. -/
def Rdy (W : World) (la : Option Addr) (l : List Att) (x : Option Addr) (xn xc : Nat) (y : Option Nat) : Prop :=
  AttsAt W (Old W.heap.size) la l ∧ LkAt W la l (.slice x xn xc) (.map y)
theorem Rdy.later {W V : World} {la : Option Addr} {l : List Att} {x : Option Addr} {xn xc : Nat} {y : Option Nat} (h : Rdy W la l x xn xc y) (hB : Below W.heap.size W V) : Rdy V la l x xn xc y :=
  ⟨attsFit h.1 hB hB.size, h.2.later hB⟩
theorem fltFit {W V : World} {z : Nat} {f : Flt} {a b : Option Addr} (h : FltAt W (Old z) f a b) (hB : Below z W V) (hz : z ≤ V.heap.size) : FltAt V (Old V.heap.size) f a b := (h.later hB).wide hz
def HOk (la : Option Addr) (l : List Att) (f : Flt) : Prop := ∀ (a : Option Addr) (c : Nat) (b : Option Addr) (d : Nat) (x : Option Addr) (xn xc : Nat) (y : Option Nat) (w : World), FltAt w (Old w.heap.size) f a b → Rdy w la l x xn xc y →
  Calls Try.prog 13 #[.agg #[.int .i64 f.kind, bs f.name, bs f.op, .slice a f.vals.length c, .slice b f.parts.length d], .agg #[.slice x xn xc, .map y]] w fun e w' => e = .returned (.bool (holdsB l f)) ∧ Below w.heap.size w w'
/-- Is there none among the first k? -/
def FxR (bad : Flt → Bool) (ps : List Flt) (w : World) (vi : Value) (wr : World) : Prop :=
  ∃ k : Nat, k ≤ ps.length ∧ vi = .int .i64 k ∧ Hid (∀ q ∈ ps.take k, bad q = false) ∧ Below w.heap.size w wr

set_option maxHeartbeats 2000000 in
set_option maxRecDepth 100000 in
theorem fails_any (la : Option Addr) (l : List Att) (q : Flt) (hq : HOk la l q) (p : Nat) (x : Option Addr) (xn xc : Nat) (y : Option Nat) (a : Option Addr) (c : Nat) (b : Option Addr) (d : Nat) (w : World) (hF : FltAt w (Old w.heap.size) q a b) (hR : Rdy w la l x xn xc y) (hp : Pr w p (.slice x xn xc) (.map y)) :
    Calls Try.prog 19 #[.agg #[.int .i64 q.kind, bs q.name, bs q.op, .slice a q.vals.length c, .slice b q.parts.length d], .pointer (some ⟨p, 0, none⟩)] w fun e w' => e = .returned (.bool (!(holdsB l q))) ∧ Below w.heap.size w w' := by
  obtain ⟨r, hr⟩ : ∃ r, r = holdsB l q := ⟨_, rfl⟩
  have CC := Lib.hid (fun W h1 h2 => hq a c b d x xn xc y W h1 h2)
  obtain ⟨sn, en, _⟩ := bs_bytes q.name
  obtain ⟨so, eo, _⟩ := bs_bytes q.op
  obtain ⟨k, hqk⟩ : ∃ x, x = q.kind := ⟨_, rfl⟩
  obtain ⟨nv, hqv⟩ : ∃ x, x = q.vals.length := ⟨_, rfl⟩
  obtain ⟨np, hqp⟩ : ∃ x, x = q.parts.length := ⟨_, rfl⟩
  rw [en, eo, ← hqk, ← hqv, ← hqp, ← hr] at CC
  rw [en, eo, ← hqk, ← hqv, ← hqp, ← hr]
  have HF := Lib.hid hF
  have HR := Lib.hid hR
  obtain ⟨w1, hw1⟩ : ∃ v, v = w.alloc (.cells #[.int .i64 k, .string sn, .string so, .slice a nv c, .slice b np d] 25) := ⟨_, rfl⟩
  have hb1 : Below w.heap.size w (w.alloc (.cells #[.int .i64 k, .string sn, .string so, .slice a nv c, .slice b np d] 25)) := (Below.refl _ _).alloc (Nat.le_refl _) _
  have HB := Lib.hid (show Below w.heap.size w w1 by rw [hw1]; exact hb1)
  obtain ⟨p0, p1⟩ := hp.later hb1
  have HW := Lib.hid hw1
  clear hw1 hb1 en eo hqk hqv hqp hr hF hR hp hq
  go_enter Try.func19, Try.ntmps19
  go_wp2_with fail
  rw [← HW.out]
  refine Calls.mono (CC.out _ (fltFit HF.out HB.out HB.out.size) (HR.out.later HB.out)) ?_
  rintro e w2 ⟨rfl, hb⟩
  have HB2 := Lib.hid (HB.out.trans (hb.mono HB.out.size))
  clear hb
  go_wp2_with fail
  go_ret
  exact ⟨rfl, HB2.out⟩
set_option maxHeartbeats 2000000 in
set_option maxRecDepth 100000 in
theorem fails_index (la : Option Addr) (l : List Att) (ps : List Flt) (ih : ∀ q ∈ ps, HOk la l q) (p : Nat) (x : Option Addr) (xn xc : Nat) (y : Option Nat) (bv : Option Addr) (cap : Nat) (w : World) (hlen : ps.length ≤ maxLen) (hP : PartsAt w (Old w.heap.size) bv 0 ps) (hR : Rdy w la l x xn xc y) (hp : Pr w p (.slice x xn xc) (.map y)) :
    Calls Try.prog 23 #[.slice bv ps.length cap, .func (.func 19) #[] #[.pointer (some ⟨p, 0, none⟩)]] w fun e w' =>
      (∃ k : Nat, e = .returned (.int .i64 (k : Nat)) ∧ ps.any (fun q => !(holdsB l q)) = true ∨ e = .returned (.int .i64 (-1)) ∧ ps.any (fun q => !(holdsB l q)) = false) ∧ Below w.heap.size w w' := by
  obtain ⟨bad, hbad⟩ : ∃ x : Flt → Bool, x = (fun q => !(holdsB l q)) := ⟨_, rfl⟩
  have CC := Lib.hid (show ∀ q ∈ ps, ∀ (a : Option Addr) (c : Nat) (b : Option Addr) (d : Nat) (W : World), Below w.heap.size w W → FltAt W (Old W.heap.size) q a b → Calls Try.prog 19 #[.agg #[.int .i64 q.kind, bs q.name, bs q.op, .slice a q.vals.length c, .slice b q.parts.length d], .pointer (some ⟨p, 0, none⟩)] W fun e w' => e = .returned (.bool (bad q)) ∧ Below W.heap.size W w' by
    rw [hbad]
    intro q hq a c b d W hW hF
    exact fails_any la l q (ih q hq) p x xn xc y a c b d W hF (hR.later hW) (hp.later hW))
  rw [← hbad]
  obtain ⟨res, hres⟩ : ∃ b, ps.any bad = b := ⟨_, rfl⟩
  have HR := Lib.hid hres
  rw [hres]
  clear hres hbad
  obtain ⟨n, hn⟩ : ∃ n, n = ps.length := ⟨_, rfl⟩
  have hm : n ≤ 9223372036854775807 := by rw [hn]; unfold maxLen at hlen; omega
  have HN := Lib.hid hn
  have HP := Lib.hid hP
  rw [← hn]
  clear hn hP hR hp ih hlen
  go_enter Try.func23, Try.ntmps23
  go_wp2_with fail
  go_loopw [8] (fun vi wr => FxR bad ps w vi wr) (fun vi _ => n - (intOf vi).toNat)
  case atStart => exact ⟨0, Nat.zero_le _, rfl, Lib.hid (by simp), Below.refl _ _⟩
  case round =>
    obtain ⟨k, hk, rfl, hall, hB⟩ := hrel
    have HK := Lib.hid hk
    have HB := Lib.hid hB
    clear hk hB
    by_cases hlt : k < n
    · have hlz : (k : Int) < (n : Int) := by omega
      have hkl : k < ps.length := by rw [← HN.out]; exact hlt
      obtain ⟨g, o', a1, c1, b1, d1, hg, hgl, h5, hf⟩ := (HP.out.later HB.out).get k hkl
      obtain ⟨U, hU⟩ : ∃ V, V = ps[k] := ⟨_, rfl⟩
      rw [← hU] at h5 hf
      have HUK := Lib.hid (show ps[k]? = some U by rw [hU]; exact List.getElem?_eq_getElem hkl)
      have CV := Lib.hid (CC.out U (List.mem_of_getElem? HUK.out) a1 c1 b1 d1 wr HB.out (hf.wide HB.out.size))
      subst hg
      obtain ⟨e0, e1, e2, e3, e4⟩ := h5
      rw [Nat.zero_add] at e0 e1 e2 e3 e4
      obtain ⟨un, hun, _⟩ := bs_bytes U.name
      obtain ⟨uo, huo, _⟩ := bs_bytes U.op
      rw [hun] at e1
      rw [huo] at e2
      obtain ⟨uk, huk⟩ : ∃ x, x = U.kind := ⟨_, rfl⟩
      obtain ⟨uv, huv⟩ : ∃ x, x = U.vals.length := ⟨_, rfl⟩
      obtain ⟨up, hup⟩ : ∃ x, x = U.parts.length := ⟨_, rfl⟩
      rw [hun, huo, ← huk, ← huv, ← hup] at CV
      rw [← huk] at e0
      rw [← huv] at e3
      rw [← hup] at e4
      clear hU hf hgl hun huo huk huv hup
      cases hv : bad U
      · have HF := Lib.hid (none_more hall.out HUK.out hv)
        rw [hv] at CV
        clear hv
        go_wp2_with fail
        refine Calls.mono CV.out ?_
        rintro e w1 ⟨rfl, hb⟩
        have HB1 := Lib.hid (HB.out.trans (hb.mono HB.out.size))
        clear hb
        go_wp2_with fail
        go_roundw
        case rel => exact ⟨k + 1, by omega, by go_num, HF, HB1.out⟩
        case measure => simp [intOf]; omega
      · have HF := Lib.hid (show res = true by rw [← HR.out, List.any_eq_true]; exact ⟨U, List.mem_of_getElem? HUK.out, hv⟩)
        rw [hv] at CV
        clear hv
        go_wp2_with fail
        refine Calls.mono CV.out ?_
        rintro e w1 ⟨rfl, hb⟩
        have HB1 := Lib.hid (HB.out.trans (hb.mono HB.out.size))
        clear hb
        go_wp2_with fail
        go_ret
        exact ⟨⟨k, Or.inl ⟨rfl, HF.out⟩⟩, HB1.out⟩
    · have hlz : ¬ (k : Int) < (n : Int) := by omega
      have hkk : k = n := by have := HN.out; have := HK.out; omega
      have HF := Lib.hid (show res = false by
        have := hall.out
        rw [hkk, HN.out, List.take_length] at this
        rw [← HR.out, List.any_eq_false]
        exact fun x hx => by rw [this x hx]; simp)
      go_wp2_with fail
      go_ret
      exact ⟨⟨0, Or.inr ⟨rfl, HF.out⟩⟩, HB.out⟩
set_option maxHeartbeats 2000000 in
set_option maxRecDepth 100000 in
theorem fails_contains (la : Option Addr) (l : List Att) (ps : List Flt) (ih : ∀ q ∈ ps, HOk la l q) (p : Nat) (x : Option Addr) (xn xc : Nat) (y : Option Nat) (bv : Option Addr) (cap : Nat) (w : World) (hlen : ps.length ≤ maxLen) (hP : PartsAt w (Old w.heap.size) bv 0 ps) (hR : Rdy w la l x xn xc y) (hp : Pr w p (.slice x xn xc) (.map y)) :
    Calls Try.prog 18 #[.slice bv ps.length cap, .func (.func 19) #[] #[.pointer (some ⟨p, 0, none⟩)]] w fun e w' => e = .returned (.bool (ps.any (fun q => !(holdsB l q)))) ∧ Below w.heap.size w w' := by
  have HC := Lib.hid (fails_index la l ps ih p x xn xc y bv cap w hlen hP hR hp)
  obtain ⟨res, hres⟩ : ∃ b, ps.any (fun q => !(holdsB l q)) = b := ⟨_, rfl⟩
  rw [hres] at HC ⊢
  obtain ⟨n, hn⟩ : ∃ n, n = ps.length := ⟨_, rfl⟩
  rw [← hn] at HC ⊢
  clear hn hres hP hR hp ih hlen
  go_enter Try.func18, Try.ntmps18
  go_wp2_with fail
  refine HC.out.mono ?_
  rintro e w1 ⟨⟨k, h⟩, hb⟩
  rcases h with ⟨rfl, rfl⟩ | ⟨rfl, rfl⟩
  · have hk : (0 : Int) ≤ (k : Int) := by omega
    go_wp2_with fail
    go_ret
    exact ⟨rfl, hb⟩
  · go_wp2_with fail
    go_ret
    exact ⟨rfl, hb⟩

set_option maxHeartbeats 2000000 in
set_option maxRecDepth 100000 in
theorem holdq_any (la : Option Addr) (l : List Att) (q : Flt) (hq : HOk la l q) (p : Nat) (x : Option Addr) (xn xc : Nat) (y : Option Nat) (a : Option Addr) (c : Nat) (b : Option Addr) (d : Nat) (w : World) (hF : FltAt w (Old w.heap.size) q a b) (hR : Rdy w la l x xn xc y) (hp : Pr w p (.slice x xn xc) (.map y)) :
    Calls Try.prog 20 #[.agg #[.int .i64 q.kind, bs q.name, bs q.op, .slice a q.vals.length c, .slice b q.parts.length d], .pointer (some ⟨p, 0, none⟩)] w fun e w' => e = .returned (.bool (holdsB l q)) ∧ Below w.heap.size w w' := by
  obtain ⟨r, hr⟩ : ∃ r, r = holdsB l q := ⟨_, rfl⟩
  have CC := Lib.hid (fun W h1 h2 => hq a c b d x xn xc y W h1 h2)
  obtain ⟨sn, en, _⟩ := bs_bytes q.name
  obtain ⟨so, eo, _⟩ := bs_bytes q.op
  obtain ⟨k, hqk⟩ : ∃ x, x = q.kind := ⟨_, rfl⟩
  obtain ⟨nv, hqv⟩ : ∃ x, x = q.vals.length := ⟨_, rfl⟩
  obtain ⟨np, hqp⟩ : ∃ x, x = q.parts.length := ⟨_, rfl⟩
  rw [en, eo, ← hqk, ← hqv, ← hqp, ← hr] at CC
  rw [en, eo, ← hqk, ← hqv, ← hqp, ← hr]
  have HF := Lib.hid hF
  have HR := Lib.hid hR
  obtain ⟨w1, hw1⟩ : ∃ v, v = w.alloc (.cells #[.int .i64 k, .string sn, .string so, .slice a nv c, .slice b np d] 25) := ⟨_, rfl⟩
  have hb1 : Below w.heap.size w (w.alloc (.cells #[.int .i64 k, .string sn, .string so, .slice a nv c, .slice b np d] 25)) := (Below.refl _ _).alloc (Nat.le_refl _) _
  have HB := Lib.hid (show Below w.heap.size w w1 by rw [hw1]; exact hb1)
  obtain ⟨p0, p1⟩ := hp.later hb1
  have HW := Lib.hid hw1
  clear hw1 hb1 en eo hqk hqv hqp hr hF hR hp hq
  go_enter Try.func20, Try.ntmps20
  go_wp2_with fail
  rw [← HW.out]
  refine Calls.mono (CC.out _ (fltFit HF.out HB.out HB.out.size) (HR.out.later HB.out)) ?_
  rintro e w2 ⟨rfl, hb⟩
  have HB2 := Lib.hid (HB.out.trans (hb.mono HB.out.size))
  clear hb
  go_wp2_with fail
  go_ret
  exact ⟨rfl, HB2.out⟩
set_option maxHeartbeats 2000000 in
set_option maxRecDepth 100000 in
theorem holdq_index (la : Option Addr) (l : List Att) (ps : List Flt) (ih : ∀ q ∈ ps, HOk la l q) (p : Nat) (x : Option Addr) (xn xc : Nat) (y : Option Nat) (bv : Option Addr) (cap : Nat) (w : World) (hlen : ps.length ≤ maxLen) (hP : PartsAt w (Old w.heap.size) bv 0 ps) (hR : Rdy w la l x xn xc y) (hp : Pr w p (.slice x xn xc) (.map y)) :
    Calls Try.prog 23 #[.slice bv ps.length cap, .func (.func 20) #[] #[.pointer (some ⟨p, 0, none⟩)]] w fun e w' =>
      (∃ k : Nat, e = .returned (.int .i64 (k : Nat)) ∧ ps.any (holdsB l) = true ∨ e = .returned (.int .i64 (-1)) ∧ ps.any (holdsB l) = false) ∧ Below w.heap.size w w' := by
  obtain ⟨bad, hbad⟩ : ∃ x : Flt → Bool, x = (holdsB l) := ⟨_, rfl⟩
  have CC := Lib.hid (show ∀ q ∈ ps, ∀ (a : Option Addr) (c : Nat) (b : Option Addr) (d : Nat) (W : World), Below w.heap.size w W → FltAt W (Old W.heap.size) q a b → Calls Try.prog 20 #[.agg #[.int .i64 q.kind, bs q.name, bs q.op, .slice a q.vals.length c, .slice b q.parts.length d], .pointer (some ⟨p, 0, none⟩)] W fun e w' => e = .returned (.bool (bad q)) ∧ Below W.heap.size W w' by
    rw [hbad]
    intro q hq a c b d W hW hF
    exact holdq_any la l q (ih q hq) p x xn xc y a c b d W hF (hR.later hW) (hp.later hW))
  rw [← hbad]
  obtain ⟨res, hres⟩ : ∃ b, ps.any bad = b := ⟨_, rfl⟩
  have HR := Lib.hid hres
  rw [hres]
  clear hres hbad
  obtain ⟨n, hn⟩ : ∃ n, n = ps.length := ⟨_, rfl⟩
  have hm : n ≤ 9223372036854775807 := by rw [hn]; unfold maxLen at hlen; omega
  have HN := Lib.hid hn
  have HP := Lib.hid hP
  rw [← hn]
  clear hn hP hR hp ih hlen
  go_enter Try.func23, Try.ntmps23
  go_wp2_with fail
  go_loopw [8] (fun vi wr => FxR bad ps w vi wr) (fun vi _ => n - (intOf vi).toNat)
  case atStart => exact ⟨0, Nat.zero_le _, rfl, Lib.hid (by simp), Below.refl _ _⟩
  case round =>
    obtain ⟨k, hk, rfl, hall, hB⟩ := hrel
    have HK := Lib.hid hk
    have HB := Lib.hid hB
    clear hk hB
    by_cases hlt : k < n
    · have hlz : (k : Int) < (n : Int) := by omega
      have hkl : k < ps.length := by rw [← HN.out]; exact hlt
      obtain ⟨g, o', a1, c1, b1, d1, hg, hgl, h5, hf⟩ := (HP.out.later HB.out).get k hkl
      obtain ⟨U, hU⟩ : ∃ V, V = ps[k] := ⟨_, rfl⟩
      rw [← hU] at h5 hf
      have HUK := Lib.hid (show ps[k]? = some U by rw [hU]; exact List.getElem?_eq_getElem hkl)
      have CV := Lib.hid (CC.out U (List.mem_of_getElem? HUK.out) a1 c1 b1 d1 wr HB.out (hf.wide HB.out.size))
      subst hg
      obtain ⟨e0, e1, e2, e3, e4⟩ := h5
      rw [Nat.zero_add] at e0 e1 e2 e3 e4
      obtain ⟨un, hun, _⟩ := bs_bytes U.name
      obtain ⟨uo, huo, _⟩ := bs_bytes U.op
      rw [hun] at e1
      rw [huo] at e2
      obtain ⟨uk, huk⟩ : ∃ x, x = U.kind := ⟨_, rfl⟩
      obtain ⟨uv, huv⟩ : ∃ x, x = U.vals.length := ⟨_, rfl⟩
      obtain ⟨up, hup⟩ : ∃ x, x = U.parts.length := ⟨_, rfl⟩
      rw [hun, huo, ← huk, ← huv, ← hup] at CV
      rw [← huk] at e0
      rw [← huv] at e3
      rw [← hup] at e4
      clear hU hf hgl hun huo huk huv hup
      cases hv : bad U
      · have HF := Lib.hid (none_more hall.out HUK.out hv)
        rw [hv] at CV
        clear hv
        go_wp2_with fail
        refine Calls.mono CV.out ?_
        rintro e w1 ⟨rfl, hb⟩
        have HB1 := Lib.hid (HB.out.trans (hb.mono HB.out.size))
        clear hb
        go_wp2_with fail
        go_roundw
        case rel => exact ⟨k + 1, by omega, by go_num, HF, HB1.out⟩
        case measure => simp [intOf]; omega
      · have HF := Lib.hid (show res = true by rw [← HR.out, List.any_eq_true]; exact ⟨U, List.mem_of_getElem? HUK.out, hv⟩)
        rw [hv] at CV
        clear hv
        go_wp2_with fail
        refine Calls.mono CV.out ?_
        rintro e w1 ⟨rfl, hb⟩
        have HB1 := Lib.hid (HB.out.trans (hb.mono HB.out.size))
        clear hb
        go_wp2_with fail
        go_ret
        exact ⟨⟨k, Or.inl ⟨rfl, HF.out⟩⟩, HB1.out⟩
    · have hlz : ¬ (k : Int) < (n : Int) := by omega
      have hkk : k = n := by have := HN.out; have := HK.out; omega
      have HF := Lib.hid (show res = false by
        have := hall.out
        rw [hkk, HN.out, List.take_length] at this
        rw [← HR.out, List.any_eq_false]
        exact fun x hx => by rw [this x hx]; simp)
      go_wp2_with fail
      go_ret
      exact ⟨⟨0, Or.inr ⟨rfl, HF.out⟩⟩, HB.out⟩
set_option maxHeartbeats 2000000 in
set_option maxRecDepth 100000 in
theorem holdq_contains (la : Option Addr) (l : List Att) (ps : List Flt) (ih : ∀ q ∈ ps, HOk la l q) (p : Nat) (x : Option Addr) (xn xc : Nat) (y : Option Nat) (bv : Option Addr) (cap : Nat) (w : World) (hlen : ps.length ≤ maxLen) (hP : PartsAt w (Old w.heap.size) bv 0 ps) (hR : Rdy w la l x xn xc y) (hp : Pr w p (.slice x xn xc) (.map y)) :
    Calls Try.prog 18 #[.slice bv ps.length cap, .func (.func 20) #[] #[.pointer (some ⟨p, 0, none⟩)]] w fun e w' => e = .returned (.bool (ps.any (holdsB l))) ∧ Below w.heap.size w w' := by
  have HC := Lib.hid (holdq_index la l ps ih p x xn xc y bv cap w hlen hP hR hp)
  obtain ⟨res, hres⟩ : ∃ b, ps.any (holdsB l) = b := ⟨_, rfl⟩
  rw [hres] at HC ⊢
  obtain ⟨n, hn⟩ : ∃ n, n = ps.length := ⟨_, rfl⟩
  rw [← hn] at HC ⊢
  clear hn hres hP hR hp ih hlen
  go_enter Try.func18, Try.ntmps18
  go_wp2_with fail
  refine HC.out.mono ?_
  rintro e w1 ⟨⟨k, h⟩, hb⟩
  rcases h with ⟨rfl, rfl⟩ | ⟨rfl, rfl⟩
  · have hk : (0 : Int) ≤ (k : Int) := by omega
    go_wp2_with fail
    go_ret
    exact ⟨rfl, hb⟩
  · go_wp2_with fail
    go_ret
    exact ⟨rfl, hb⟩
end Go.Proofs.Ytcajcmaldnmbjaa.Ev
/-
  Contract of package eval's byName: attributes laid ready to be found. Memory that was there is left as it was.
-/
namespace Go.Proofs.Ytcajcmaldnmbjaa.Ev
open Go.RowKit Go.Maps Go.Proofs.Ytcajcmaldnmbjaa.Fl Go.Proofs.Ytcajcmaldnmbjaa.Tk Go.Proofs.Ytcajcmaldnmbjaa.Ck
set_option linter.unusedVariables false
set_option linter.unusedSimpArgs false

def NmEnd (la : Option Addr) (l : List Att) (w' : World) (e : Ending) : Prop := ∃ u1 u2, e = .returned (.agg #[u1, u2]) ∧ LkAt w' la l u1 u2
/-- The result's block, still empty. -/
def Em (W : World) (p : Nat) : Prop := W.cell? ⟨p, 0, none⟩ = some (.slice none 0 0) ∧ W.cell? ⟨p, 1, none⟩ = some (.map none) ∧ W.frozen? ⟨p, 0, none⟩ = false ∧ W.frozen? ⟨p, 1, none⟩ = false
theorem Em.new (w : World) (t : TypeId) : Em (w.alloc (.cells #[.slice none 0 0, .map none] t)) w.heap.size := by
  refine ⟨?_, ?_, ?_, ?_⟩ <;> simp [go_sem]
theorem Em.gr {W V : World} {p : Nat} {row : Option Nat} (h : Em W p) (hg : W.grownBy V row) (hne : some p ≠ row) : Em V p := by
  obtain ⟨h0, h1, f0, f1⟩ := h
  have e : V.heap[p]? = W.heap[p]? := hg.block p (World.block_lt_of_cell? W ⟨p, 0, none⟩ h0) hne
  have hq : ∀ x, V.cell? ⟨p, x, none⟩ = W.cell? ⟨p, x, none⟩ := fun x => World.cell?_of_block (w := W) (w' := V) (a := ⟨p, x, none⟩) e
  have hf : ∀ x, V.frozen? ⟨p, x, none⟩ = W.frozen? ⟨p, x, none⟩ := fun x => World.frozen?_of_block (w := W) (w' := V) (a := ⟨p, x, none⟩) e
  exact ⟨(hq 0).trans h0, (hq 1).trans h1, (hf 0).trans f0, (hf 1).trans f1⟩
def NmR (g o : Nat) (l : List Att) (w : World) (mb n : Nat) (vi : Value) (wr : World) : Prop :=
  ∃ m : Nat, m ≤ n ∧ vi = .int .i64 ((m : Int) - 1) ∧ MapAt wr mb (n - m) g o m (l.drop m) ∧ Em wr w.heap.size ∧ Below w.heap.size w wr
set_option maxHeartbeats 4000000 in
set_option maxRecDepth 100000 in
theorem byName_any (l : List Att) (la : Option Addr) (c : Nat) (w : World) (hA : AttsAt w (Old w.heap.size) la l) :
    Calls Try.prog 14 #[.slice la l.length c] w fun e w' => NmEnd la l w' e ∧ Below w.heap.size w w' := by
  obtain ⟨n, hn⟩ : ∃ n, n = l.length := ⟨_, rfl⟩
  have HN := Lib.hid hn
  have hbig : n ≤ 9223372036854775807 := by have := hA.1; unfold maxLen at this; omega
  have HA := Lib.hid hA
  have HLK := Lib.hid (show ∀ W, LkAt W la l (.slice la n c) (.map none) from fun W => .inl ⟨c, by rw [hn], rfl⟩)
  rw [← hn]
  clear hA hn
  by_cases h16 : n ≤ 16
  · have h16z : (n : Int) ≤ 16 := by omega
    go_enter Try.func14, Try.ntmps14
    go_wp2_with fail
    refine bodyPost_ret (v := .agg #[.slice la n c, .map none]) (by simp [results, Try.results14, go_sem, *]) rfl ⟨⟨_, _, rfl, HLK.out _⟩, ?_⟩
    simpa using (Below.alloc (Below.refl _ _) (Nat.le_refl _) _)
  · have h16z : ¬ (n : Int) ≤ 16 := by omega
    obtain ⟨g, o, hg, hgl, hc⟩ := HA.out.2.2 (by rw [← HN.out]; omega)
    have HGL := Lib.hid hgl
    have HC := Lib.hid hc
    subst hg
    clear hgl hc
    have hmm := @run_makeMap Try.prog
    go_enter Try.func14, Try.ntmps14
    go_wp2_with fail
    go_loopw [4] (fun vi wr => NmR g o l w (w.heap.size + 1) n vi wr) (fun vi _ => (intOf vi + 1).toNat)
    case atStart =>
      refine ⟨n, Nat.le_refl _, rfl, ?_, ?_, ?_⟩
      · rw [Nat.sub_self, HN.out, List.drop_length]
        have := mapAt_made (w.alloc (.cells #[.slice none 0 0, .map none] 40)) g o l.length
        rw [show (w.alloc (.cells #[.slice none 0 0, .map none] 40)).heap.size = w.heap.size + 1 by simp] at this
        exact this
      · exact (Em.new w _).gr (World.grownBy_alloc _ _ none) (by simp)
      · exact (Below.alloc (Below.refl _ _) (Nat.le_refl _) _).alloc (by simp) _
    case round =>
      obtain ⟨m, hm, rfl, hmap, hem, hB⟩ := hrel
      have HB := Lib.hid hB
      have HM := Lib.hid hm
      have HEM := Lib.hid hem
      obtain ⟨f0, f1, f2, f3⟩ := hem
      clear hB hm
      cases m with
      | zero =>
        have HMAP := Lib.hid hmap
        clear hmap
        go_wp2_with fail
        refine bodyPost_ret (v := .agg #[.slice none 0 0, .map (some (w.heap.size + 1))]) (by simp [results, Try.results14, go_sem, *]) rfl ⟨⟨_, _, rfl, ?_⟩, ?_⟩
        · obtain ⟨D, h, h2⟩ := HMAP.out
          exact .inr ⟨rfl, w.heap.size + 1, n - 0, g, o, rfl, rfl, D, (h.setCell (by simp) _).setCell (by simp) _, by simpa using h2⟩
        · exact (HB.out.setCell (Nat.le_refl _) _).setCell (Nat.le_refl _) _
      | succ k =>
        have hk : ((k + 1 : Nat) : Int) - 1 = (k : Int) := by omega
        rw [hk]
        have hkn : k < n := by have := HM.out; omega
        have hkz : (k : Int) < (n : Int) := by omega
        have hkl : k < l.length := by rw [← HN.out]; exact hkn
        obtain ⟨c0, -, -, -⟩ := HC.out k hkl
        obtain ⟨V, hV⟩ : ∃ V, V = l[k] := ⟨_, rfl⟩
        rw [← hV] at c0
        have HVK := Lib.hid (show l.drop k = V :: l.drop (k + 1) by rw [hV]; exact List.drop_eq_getElem_cons hkl)
        have HOK := Lib.hid (HA.out.2.1 V (by rw [hV]; exact List.getElem_mem hkl))
        obtain ⟨s1, e1, hs1⟩ := bs_bytes V.name
        rw [e1] at c0
        have c0 := (HB.out.cell (p := ⟨g, o + k * 4, none⟩) HGL.out).trans c0
        obtain ⟨D, hown, hD⟩ := hmap
        have hkey := key_st (x := s1) (by have := HOK.out.1; rw [← hs1, size_list] at this; exact this)
        obtain ⟨w2, hrun, hown2, hg2⟩ := (hown.drew).update lawP Try.underlying38 (by have := HM.out; have := HA.out.1; have := HN.out; omega) hkey (pR_mk g (o + k * 4))
        have HS1 := Lib.hid hs1
        have HD := Lib.hid hD
        have HOWN := Lib.hid (And.intro hown2 hg2)
        have HIS := Lib.hid hown.isMap
        clear hV e1 hk hs1 hown hD hkey hown2 hg2
        go_wp2_with fail
        go_region
        have hg2 := HOWN.out.2
        have HB2 := Lib.hid (show Below w.heap.size w w2 from HB.out.trans (gr_below (p := w.heap.size + 1) (show wr.grownBy w2 (some (w.heap.size + 1)) from ⟨hg2.os, hg2.tape, hg2.output, hg2.size, hg2.block⟩) (by omega) HB.out.size))
        clear hg2
        go_wp2_with fail
        go_roundw
        case rel =>
          refine ⟨k, by omega, by go_num, ⟨_, HOWN.out.1.mono (by omega), fun x => ?_⟩, HEM.out.gr (row := some (w.heap.size + 1)) ?_ (by simp), HB2.out⟩
          · rw [HVK.out, HS1.out]
            exact put_pos HIS.out HD.out x
          · have hg2 := HOWN.out.2
            exact ⟨hg2.os, hg2.tape, hg2.output, hg2.size, hg2.block⟩
        case measure => simp [intOf]
end Go.Proofs.Ytcajcmaldnmbjaa.Ev
/-
  Contract of package eval's holds and Holds: does a filter hold of attributes? Memory that was there is left as it was.
-/
namespace Go.Proofs.Ytcajcmaldnmbjaa.Ev
open Go.RowKit Go.Maps Go.Proofs.Ytcajcmaldnmbjaa.Fl Go.Proofs.Ytcajcmaldnmbjaa.Tk Go.Proofs.Ytcajcmaldnmbjaa.Ck
set_option linter.unusedVariables false
set_option linter.unusedSimpArgs false

theorem attOf_get {l : List Att} {x : List UInt8} {a : Att} (h : attOf l x = some a) : True := trivial
theorem not_all {α : Type} (f : α → Bool) (l : List α) : (!(l.any fun q => !(f q))) = l.all f := by
  induction l with
  | nil => rfl
  | cons a l ih => rw [List.any_cons, List.all_cons, ← ih]; cases f a <;> simp
set_option maxHeartbeats 8000000 in
set_option maxRecDepth 100000 in
theorem holds_ok (la : Option Addr) (l : List Att) (f : Flt) (ih : ∀ q ∈ f.parts, HOk la l q) : HOk la l f := by
  obtain ⟨k, nm, op, vs, ps⟩ := f
  simp only [Flt.parts] at ih
  intro a c b d x xn xc y w hF hR
  simp only [Flt.kind, Flt.name, Flt.op, Flt.vals, Flt.parts]
  obtain ⟨res, hres⟩ : ∃ r, r = holdsB l (.mk k nm op vs ps) := ⟨_, rfl⟩
  rw [← hres]
  rw [holdsB] at hres
  obtain ⟨sn, en, hsn⟩ := bs_bytes nm
  obtain ⟨so, eo, hso⟩ := bs_bytes op
  have hvs := hF.atts
  have hps := hF.parts
  have hsm := hF.small
  simp only [Flt.name, Flt.op, Flt.vals, Flt.parts] at hvs hps hsm
  have hszn : sn.size ≤ maxLen := by rw [← size_list, hsn]; exact hsm.1
  obtain ⟨nv, hqv⟩ : ∃ x, x = vs.length := ⟨_, rfl⟩
  obtain ⟨np, hqp⟩ : ∃ x, x = ps.length := ⟨_, rfl⟩
  have HNV := Lib.hid hqv
  have HNP := Lib.hid hqp
  have HPL := Lib.hid hsm.2.2.2.2
  have hbig : np ≤ 9223372036854775807 := by have := hsm.2.2.2.2; unfold maxLen at this; omega
  have HRES := Lib.hid hres
  have HVS := Lib.hid hvs
  have HPS := Lib.hid hps
  have HR := Lib.hid hR
  have HSN := Lib.hid hsn
  have HSO := Lib.hid hso
  rw [en, eo, ← hqv, ← hqp]
  clear hvs hps hsm hqv hqp hres hF hR hsn hso en eo
  obtain ⟨w1, hw1⟩ : ∃ v, v = w.alloc (.cells #[.int .i64 k, .string sn, .string so, .slice a nv c, .slice b np d] 25) := ⟨_, rfl⟩
  have hs1 : w1.heap.size = w.heap.size + 1 := by rw [hw1]; simp
  have HB1 := Lib.hid (show Below w.heap.size w w1 by rw [hw1]; exact (Below.refl _ _).alloc (Nat.le_refl _) _)
  have X1 := Lib.hid (show Box w1 w.heap.size (.int .i64 k) (.string sn) (.string so) (.slice a nv c) (.slice b np d) by rw [hw1]; exact Box.new ..)
  have HW1 := Lib.hid hw1
  obtain ⟨w2, hw2⟩ : ∃ v, v = w1.alloc (.cells #[.slice x xn xc, .map y] 40) := ⟨_, rfl⟩
  have HB12 := Lib.hid (show Below w1.heap.size w1 w2 by rw [hw2]; exact (Below.refl _ _).alloc (Nat.le_refl _) _)
  have HB := Lib.hid (HB1.out.trans (HB12.out.mono HB1.out.size))
  have X2 := Lib.hid (X1.out.later HB12.out)
  have P2 := Lib.hid (show Pr w2 (w.heap.size + 1) (.slice x xn xc) (.map y) by rw [hw2, ← hs1]; exact Pr.new ..)
  have HW2 := Lib.hid hw2
  have R2 := Lib.hid (HR.out.later HB.out)
  have VS2 := Lib.hid (attsFit HVS.out HB.out HB.out.size)
  have PS2 := Lib.hid (show PartsAt w2 (Old w2.heap.size) b 0 ps from (HPS.out.later HB.out).far (fun g hg => ⟨Nat.lt_of_lt_of_le hg HB.out.size, rfl⟩) ps)
  clear hw1 hw2 hs1
  obtain ⟨p0, p1, p2, p3, p4⟩ := X2.out
  obtain ⟨r0, r1⟩ := P2.out
  by_cases h7 : k = 7
  · have HF := Lib.hid (show res = true by rw [HRES.out, if_pos h7])
    subst h7
    go_enter Try.func13, Try.ntmps13
    go_wp2_with fail
    rw [← HW1.out, ← HW2.out]
    go_wp2_with fail
    go_ret
    exact ⟨by rw [HF.out]; rfl, HB.out⟩
  · by_cases h3 : k = 3
    · by_cases hp0 : ps = []
      · have HF := Lib.hid (show res = false by rw [HRES.out, if_neg h7, if_pos h3, hp0]; rfl)
        subst h3
        obtain rfl : np = 0 := by rw [HNP.out, hp0]; rfl
        go_enter Try.func13, Try.ntmps13
        go_wp2_with fail
        rw [← HW1.out, ← HW2.out]
        go_big_quiet (fail)
        go_wp2_with fail
        go_ret
        exact ⟨by rw [HF.out]; rfl, below_drewN HB.out _⟩
      · have hpos : 0 < np := by rw [HNP.out]; exact List.length_pos_iff.2 hp0
        have hpz : (0 : Int) < (np : Int) := by omega
        obtain ⟨U, R, hvr⟩ := List.exists_cons_of_ne_nil hp0
        have HF := Lib.hid (show res = !(holdsB l U) by rw [HRES.out, if_neg h7, if_pos h3, hvr]; rfl)
        obtain ⟨g, o, a1, c1, b1, d1, hg, hgl, h5, hf⟩ := HPS.out.get 0 (by rw [← HNP.out]; exact hpos)
        have hu0 : ps[0]'(by rw [← HNP.out]; exact hpos) = U := by simp only [hvr, List.getElem_cons_zero]
        rw [hu0] at h5 hf
        have CI := Lib.hid (fun W h1 h2 => ih U (by rw [hvr]; simp) a1 c1 b1 d1 x xn xc y W h1 h2)
        obtain ⟨un, hun, _⟩ := bs_bytes U.name
        obtain ⟨uo, huo, _⟩ := bs_bytes U.op
        obtain ⟨uk, huk⟩ : ∃ x, x = U.kind := ⟨_, rfl⟩
        obtain ⟨uv, huv⟩ : ∃ x, x = U.vals.length := ⟨_, rfl⟩
        obtain ⟨up, hup⟩ : ∃ x, x = U.parts.length := ⟨_, rfl⟩
        obtain ⟨e0, e1, e2, e3, e4⟩ := h5
        simp only [Nat.zero_add, Nat.zero_mul, Nat.add_zero] at e0 e1 e2 e3 e4
        rw [hun, huo, ← huk, ← huv, ← hup] at CI
        rw [← huk] at e0
        rw [hun] at e1
        rw [huo] at e2
        rw [← huv] at e3
        rw [← hup] at e4
        have HE := Lib.hid (And.intro e0 (And.intro e1 (And.intro e2 (And.intro e3 e4))))
        have HFU := Lib.hid hf
        have HGL := Lib.hid hgl
        subst h3
        subst hg
        obtain ⟨hu, hhu⟩ : ∃ x, x = holdsB l U := ⟨_, rfl⟩
        rw [← hhu] at CI HF
        clear hp0 hvr hu0 hun huo huk huv hup e0 e1 e2 e3 e4 hf hgl p0 p1 p2 p3 p4 r0 r1 h7 ih hhu
        have HS := Lib.hid (show ∀ W, Below w2.heap.size w2 W → (fun W => W.cell? ⟨w.heap.size, 0, none⟩ = some (.int .i64 3) ∧ W.cell? ⟨w.heap.size, 1, none⟩ = some (.string sn) ∧ W.cell? ⟨w.heap.size, 2, none⟩ = some (.string so) ∧ W.cell? ⟨w.heap.size, 3, none⟩ = some (.slice a nv c) ∧ W.cell? ⟨w.heap.size, 4, none⟩ = some (.slice (some ⟨g, o, none⟩) np d) ∧ W.cell? ⟨w.heap.size + 1, 0, none⟩ = some (.slice x xn xc) ∧ W.cell? ⟨w.heap.size + 1, 1, none⟩ = some (.map y) ∧ W.cell? ⟨g, o, none⟩ = some (.int .i64 uk) ∧ W.cell? ⟨g, o + 1, none⟩ = some (.string un) ∧ W.cell? ⟨g, o + 2, none⟩ = some (.string uo) ∧ W.cell? ⟨g, o + 3, none⟩ = some (.slice a1 uv c1) ∧ W.cell? ⟨g, o + 4, none⟩ = some (.slice b1 up d1) ∧ Below w2.heap.size w2 W) W from fun W hW => by
          have hB := HB.out.trans (hW.mono HB.out.size)
          obtain ⟨q0, q1, q2, q3, q4⟩ := X2.out.later hW
          obtain ⟨y0, y1⟩ := P2.out.later hW
          exact ⟨q0, q1, q2, q3, q4, y0, y1, (hB.cell (p := ⟨g, o, none⟩) HGL.out).trans HE.out.1, (hB.cell (p := ⟨g, o + 1, none⟩) HGL.out).trans HE.out.2.1, (hB.cell (p := ⟨g, o + 2, none⟩) HGL.out).trans HE.out.2.2.1, (hB.cell (p := ⟨g, o + 3, none⟩) HGL.out).trans HE.out.2.2.2.1, (hB.cell (p := ⟨g, o + 4, none⟩) HGL.out).trans HE.out.2.2.2.2, hW⟩)
        have HD0 := Lib.hid (show Below w2.heap.size w2 w2.drew from (Below.refl _ _).drew)
        have HFQ := Lib.hid (fun W (hW : Below w2.heap.size w2 W) => fltFit HFU.out (HB.out.trans (hW.mono HB.out.size)) (HB.out.trans (hW.mono HB.out.size)).size)
        go_enter Try.func13, Try.ntmps13
        go_wp2_with fail
        rw [← HW1.out, ← HW2.out]
        go_region_held3 (fun W => W.cell? ⟨w.heap.size, 0, none⟩ = some (.int .i64 3) ∧ W.cell? ⟨w.heap.size, 1, none⟩ = some (.string sn) ∧ W.cell? ⟨w.heap.size, 2, none⟩ = some (.string so) ∧ W.cell? ⟨w.heap.size, 3, none⟩ = some (.slice a nv c) ∧ W.cell? ⟨w.heap.size, 4, none⟩ = some (.slice (some ⟨g, o, none⟩) np d) ∧ W.cell? ⟨w.heap.size + 1, 0, none⟩ = some (.slice x xn xc) ∧ W.cell? ⟨w.heap.size + 1, 1, none⟩ = some (.map y) ∧ W.cell? ⟨g, o, none⟩ = some (.int .i64 uk) ∧ W.cell? ⟨g, o + 1, none⟩ = some (.string un) ∧ W.cell? ⟨g, o + 2, none⟩ = some (.string uo) ∧ W.cell? ⟨g, o + 3, none⟩ = some (.slice a1 uv c1) ∧ W.cell? ⟨g, o + 4, none⟩ = some (.slice b1 up d1) ∧ Below w2.heap.size w2 W)
          (first | exact HS.out _ HD0.out | exact HS.out _ HB1a.out)
          (first | (go_at_call 13; have HX := Lib.hid (And.right <| And.right <| And.right <| And.right <| And.right <| And.right <| And.right <| And.right <| And.right <| And.right <| And.right <| And.right <| (by assumption)); refine Calls.mono (CI.out _ (HFQ.out _ HX.out) (R2.out.later HX.out)) ?_; rintro e w3 ⟨rfl, hb⟩; have HB1a := Lib.hid (HX.out.trans (hb.mono HX.out.size)); clear hb))
        go_wp2_with fail
        go_ret
        exact ⟨by rw [HF.out]; rfl, HB.out.trans (HB1a.out.mono HB.out.size)⟩
    · by_cases h1 : k = 1
      · have HF := Lib.hid (show res = !(ps.any fun q => !(holdsB l q)) by rw [HRES.out, if_neg h7, if_neg h3, if_pos h1, allH_all, not_all])
        have CE := Lib.hid (fails_contains la l ps ih (w.heap.size + 1) x xn xc y b d w2 HPL.out PS2.out R2.out P2.out)
        obtain ⟨r, hr⟩ : ∃ r, r = ps.any fun q => !(holdsB l q) := ⟨_, rfl⟩
        rw [← HNP.out, ← hr] at CE
        rw [← hr] at HF
        subst h1
        clear hr ih
        go_enter Try.func13, Try.ntmps13
        go_wp2_with fail
        rw [← HW1.out, ← HW2.out]
        go_wp2_with fail
        refine Calls.mono CE.out ?_
        rintro e w3 ⟨rfl, hb⟩
        have HB3 := Lib.hid (HB.out.trans (hb.mono HB.out.size))
        clear hb
        go_wp2_with fail
        go_ret
        exact ⟨by rw [HF.out]; rfl, HB3.out⟩
      · by_cases h2 : k = 2
        · have HF := Lib.hid (show res = ps.any (holdsB l) by rw [HRES.out, if_neg h7, if_neg h3, if_neg h1, if_pos h2, anyH_any])
          have CE := Lib.hid (holdq_contains la l ps ih (w.heap.size + 1) x xn xc y b d w2 HPL.out PS2.out R2.out P2.out)
          obtain ⟨r, hr⟩ : ∃ r, r = ps.any (holdsB l) := ⟨_, rfl⟩
          rw [← HNP.out, ← hr] at CE
          rw [← hr] at HF
          subst h2
          clear hr ih
          go_enter Try.func13, Try.ntmps13
          go_wp2_with fail
          rw [← HW1.out, ← HW2.out]
          go_wp2_with fail
          refine Calls.mono CE.out ?_
          rintro e w3 ⟨rfl, hb⟩
          have HB3 := Lib.hid (HB.out.trans (hb.mono HB.out.size))
          clear hb
          go_wp2_with fail
          go_ret
          exact ⟨by rw [HF.out]; rfl, HB3.out⟩
        · have HF := Lib.hid (show res = (match attOf l nm with | none => false | some a => ofH k op vs a) by rw [HRES.out, if_neg h7, if_neg h3, if_neg h1, if_neg h2, leaf_of]; cases attOf l nm <;> rfl)
          have CF := Lib.hid (evFind_any l la (.slice x xn xc) (.map y) sn hszn w2 R2.out.1 R2.out.2)
          rw [HSN.out] at CF
          clear ih
          go_enter Try.func13, Try.ntmps13
          go_wp2_with fail
          rw [← HW1.out, ← HW2.out]
          go_wp2_with fail
          refine Calls.mono CF.out ?_
          rintro e w3 ⟨⟨v, rfl, hv⟩, hb⟩
          have HB23 := Lib.hid hb
          have HB3 := Lib.hid (HB.out.trans (hb.mono HB.out.size))
          have X3 := Lib.hid (X2.out.later hb)
          clear hb p0 p1 p2 p3 p4 r0 r1
          rcases hv with ⟨rfl, h0⟩ | ⟨g, o, i, A, hla, rfl, hi, hA⟩
          · have HG := Lib.hid (show res = false by rw [HF.out, h0])
            clear h0
            go_wp2_with fail
            go_big_quiet (fail)
            go_wp2_with fail
            go_ret
            exact ⟨by rw [HG.out]; rfl, below_drewN HB3.out _⟩
          · have HG := Lib.hid (show res = ofH k op vs A by rw [HF.out, hA])
            have hil : i < l.length := (List.getElem?_eq_some_iff.1 hi).1
            have hie : l[i] = A := (List.getElem?_eq_some_iff.1 hi).2
            obtain ⟨g', o', hg, hgl, hc⟩ := HR.out.1.2.2 (by omega)
            rw [hla] at hg
            cases hg
            obtain ⟨c0, c1, c2, c3⟩ := hc i hil
            rw [hie] at c0 c1 c2 c3
            obtain ⟨an, e0, han⟩ := bs_bytes A.name
            obtain ⟨ax, e3, hax⟩ := bs_bytes A.str
            obtain ⟨at', hat⟩ : ∃ x, x = A.text := ⟨_, rfl⟩
            obtain ⟨ai, hai⟩ : ∃ x, x = A.num := ⟨_, rfl⟩
            rw [e0] at c0
            rw [← hat] at c1
            rw [← hai] at c2
            rw [e3] at c3
            have HVV := Lib.hid (show A = AttL an at' ai ax by unfold AttL; rw [han, hax, hat, hai])
            have HC := Lib.hid (And.intro c0 (And.intro c1 (And.intro c2 c3)))
            have HGL := Lib.hid hgl
            have CO := Lib.hid (fun W h1 => holdsOf_any k sn so vs a c b np d an at' ai ax W h1)
            rw [← HNV.out, ← HVV.out, HSO.out, ← HG.out] at CO
            have VS3 := Lib.hid (fun W (hW : Below w3.heap.size w3 W) => attsFit HVS.out (HB3.out.trans (hW.mono HB3.out.size)) (HB3.out.trans (hW.mono HB3.out.size)).size)
            clear hla hi hA hie hc c0 c1 c2 c3 e0 e3 han hax hat hai hgl hil
            have HS := Lib.hid (show ∀ W, Below w3.heap.size w3 W → (fun W => W.cell? ⟨w.heap.size, 0, none⟩ = some (.int .i64 k) ∧ W.cell? ⟨w.heap.size, 1, none⟩ = some (.string sn) ∧ W.cell? ⟨w.heap.size, 2, none⟩ = some (.string so) ∧ W.cell? ⟨w.heap.size, 3, none⟩ = some (.slice a nv c) ∧ W.cell? ⟨w.heap.size, 4, none⟩ = some (.slice b np d) ∧ W.cell? ⟨g, o + i * 4, none⟩ = some (.string an) ∧ W.cell? ⟨g, o + i * 4 + 1, none⟩ = some (.bool at') ∧ W.cell? ⟨g, o + i * 4 + 2, none⟩ = some (.int .i64 ai) ∧ W.cell? ⟨g, o + i * 4 + 3, none⟩ = some (.string ax) ∧ Below w3.heap.size w3 W) W from fun W hW => by
              have hB := HB3.out.trans (hW.mono HB3.out.size)
              obtain ⟨q0, q1, q2, q3, q4⟩ := X3.out.later hW
              exact ⟨q0, q1, q2, q3, q4, (hB.cell (p := ⟨g, o + i * 4, none⟩) HGL.out).trans HC.out.1, (hB.cell (p := ⟨g, o + i * 4 + 1, none⟩) HGL.out).trans HC.out.2.1, (hB.cell (p := ⟨g, o + i * 4 + 2, none⟩) HGL.out).trans HC.out.2.2.1, (hB.cell (p := ⟨g, o + i * 4 + 3, none⟩) HGL.out).trans HC.out.2.2.2, hW⟩)
            have HD0 := Lib.hid (show Below w3.heap.size w3 w3.drew from (Below.refl _ _).drew)
            go_wp2_with fail
            go_region_held3 (fun W => W.cell? ⟨w.heap.size, 0, none⟩ = some (.int .i64 k) ∧ W.cell? ⟨w.heap.size, 1, none⟩ = some (.string sn) ∧ W.cell? ⟨w.heap.size, 2, none⟩ = some (.string so) ∧ W.cell? ⟨w.heap.size, 3, none⟩ = some (.slice a nv c) ∧ W.cell? ⟨w.heap.size, 4, none⟩ = some (.slice b np d) ∧ W.cell? ⟨g, o + i * 4, none⟩ = some (.string an) ∧ W.cell? ⟨g, o + i * 4 + 1, none⟩ = some (.bool at') ∧ W.cell? ⟨g, o + i * 4 + 2, none⟩ = some (.int .i64 ai) ∧ W.cell? ⟨g, o + i * 4 + 3, none⟩ = some (.string ax) ∧ Below w3.heap.size w3 W)
              (first | exact HS.out _ HD0.out | exact HS.out _ HB1a.out)
              (first | (go_at_call 22; have HX := Lib.hid (And.right <| And.right <| And.right <| And.right <| And.right <| And.right <| And.right <| And.right <| And.right <| (by assumption)); refine Calls.mono (CO.out _ (VS3.out _ HX.out)) ?_; rintro e w4 ⟨rfl, hb⟩; have HB1a := Lib.hid (HX.out.trans (hb.mono HX.out.size)); clear hb))
            go_wp2_with fail
            go_ret
            exact ⟨rfl, HB3.out.trans (HB1a.out.mono HB3.out.size)⟩
theorem holds_all (la : Option Addr) (l : List Att) : ∀ (N : Nat) (f : Flt), sz f ≤ N → HOk la l f
  | 0, f, h => by have := sz_pos f; omega
  | N + 1, f, h => holds_ok la l f fun q hq => holds_all la l N q (by
      cases f
      simp only [Flt.parts] at hq
      have := sz_mem hq
      rw [sz] at h
      omega)
end Go.Proofs.Ytcajcmaldnmbjaa.Ev
/-
  Contract of package eval's Holds: does a filter hold of attributes? Memory that was there is left as it was.
-/
namespace Go.Proofs.Ytcajcmaldnmbjaa.Ev
open Go.RowKit Go.Maps Go.Proofs.Ytcajcmaldnmbjaa.Fl Go.Proofs.Ytcajcmaldnmbjaa.Tk Go.Proofs.Ytcajcmaldnmbjaa.Ck
set_option linter.unusedVariables false
set_option linter.unusedSimpArgs false

theorem lk_shape {W : World} {la : Option Addr} {l : List Att} {u1 u2 : Value} (h : LkAt W la l u1 u2) : ∃ x xn xc y, u1 = .slice x xn xc ∧ u2 = .map y := by
  rcases h with ⟨c, rfl, rfl⟩ | ⟨rfl, b, m, g, o, rfl, _⟩
  · exact ⟨_, _, _, _, rfl, rfl⟩
  · exact ⟨_, _, _, _, rfl, rfl⟩
def NrEnd (la : Option Addr) (l : List Att) (w' : World) (e : Ending) : Prop := ∃ x xn xc y, e = .returned (.agg #[.slice x xn xc, .map y]) ∧ LkAt w' la l (.slice x xn xc) (.map y)
set_option maxHeartbeats 4000000 in
set_option maxRecDepth 100000 in
theorem evalHolds_any (f : Flt) (l : List Att) (a : Option Addr) (c : Nat) (b : Option Addr) (d : Nat) (la : Option Addr) (lc : Nat) (w : World) (hF : FltAt w (Old w.heap.size) f a b) (hA : AttsAt w (Old w.heap.size) la l) :
    Calls Try.prog 8 #[.agg #[.int .i64 f.kind, bs f.name, bs f.op, .slice a f.vals.length c, .slice b f.parts.length d], .slice la l.length lc] w fun e w' => e = .returned (.bool (holdsB l f)) ∧ Below w.heap.size w w' := by
  have CC := Lib.hid (fun x xn xc y W h1 h2 => holds_all la l (sz f) f (Nat.le_refl _) a c b d x xn xc y W h1 h2)
  have CB := Lib.hid (fun W h => Calls.mono (byName_any l la lc W h) (fun e w' (h : NmEnd la l w' e ∧ Below W.heap.size W w') => show NrEnd la l w' e ∧ Below W.heap.size W w' by
    obtain ⟨⟨u1, u2, he, hl⟩, hb⟩ := h
    obtain ⟨x, xn, xc, y, rfl, rfl⟩ := lk_shape hl
    exact ⟨⟨x, xn, xc, y, he, hl⟩, hb⟩))
  obtain ⟨r, hr⟩ : ∃ r, r = holdsB l f := ⟨_, rfl⟩
  obtain ⟨sn, en, _⟩ := bs_bytes f.name
  obtain ⟨so, eo, _⟩ := bs_bytes f.op
  obtain ⟨k, hqk⟩ : ∃ x, x = f.kind := ⟨_, rfl⟩
  obtain ⟨nv, hqv⟩ : ∃ x, x = f.vals.length := ⟨_, rfl⟩
  obtain ⟨np, hqp⟩ : ∃ x, x = f.parts.length := ⟨_, rfl⟩
  obtain ⟨n, hn⟩ : ∃ x, x = l.length := ⟨_, rfl⟩
  rw [en, eo, ← hqk, ← hqv, ← hqp, ← hr] at CC
  rw [en, eo, ← hqk, ← hqv, ← hqp, ← hr, ← hn]
  rw [← hn] at CB
  have HF := Lib.hid hF
  have HA := Lib.hid hA
  obtain ⟨w1, hw1⟩ : ∃ v, v = w.alloc (.cells #[.int .i64 k, .string sn, .string so, .slice a nv c, .slice b np d] 25) := ⟨_, rfl⟩
  have HB1 := Lib.hid (show Below w.heap.size w w1 by rw [hw1]; exact (Below.refl _ _).alloc (Nat.le_refl _) _)
  have X1 := Lib.hid (show Box w1 w.heap.size (.int .i64 k) (.string sn) (.string so) (.slice a nv c) (.slice b np d) by rw [hw1]; exact Box.new ..)
  have HW1 := Lib.hid hw1
  have HD := Lib.hid (show Below w1.heap.size w1 w1.drew from (Below.refl _ _).drew)
  clear hw1 en eo hqk hqv hqp hr hn hF hA
  obtain ⟨p0, p1, p2, p3, p4⟩ := X1.out
  go_enter Try.func8, Try.ntmps8
  go_wp2_with fail
  rw [← HW1.out]
  go_region_with (first
    | (go_at_call 14; refine Calls.mono (CB.out _ (attsFit HA.out (HB1.out.trans (HD.out.mono HB1.out.size)) (HB1.out.trans (HD.out.mono HB1.out.size)).size)) ?_; rintro e w2 ⟨⟨x, xn, xc, y, rfl, hlk⟩, hb⟩; have HLK := Lib.hid hlk; have HB2 := Lib.hid (HD.out.trans hb); have X2 := Lib.hid (X1.out.later HB2.out); clear hb hlk p0 p1 p2 p3 p4; obtain ⟨p0, p1, p2, p3, p4⟩ := X2.out)
    | (go_at_call 13; refine Calls.mono (CC.out _ _ _ _ _ (fltFit HF.out (HB1.out.trans (HB2.out.mono HB1.out.size)) (HB1.out.trans (HB2.out.mono HB1.out.size)).size) ⟨attsFit HA.out (HB1.out.trans (HB2.out.mono HB1.out.size)) (HB1.out.trans (HB2.out.mono HB1.out.size)).size, HLK.out⟩) ?_; rintro e w3 ⟨rfl, hb⟩; have HB3 := Lib.hid ((HB1.out.trans (HB2.out.mono HB1.out.size)).trans (hb.mono (HB1.out.trans (HB2.out.mono HB1.out.size)).size)); clear hb))
  all_goals
    go_wp2_with fail
    go_ret
    exact ⟨rfl, HB3.out⟩
end Go.Proofs.Ytcajcmaldnmbjaa.Ev
namespace Go.Proofs.Ytcajcmaldnmbjaa.Ck
open Go.RowKit Go.Proofs.Ytcajcmaldnmbjaa.Fl Go.Proofs.Ytcajcmaldnmbjaa.Tk
set_option linter.unusedVariables false
set_option linter.unusedSimpArgs false

def SmEnd (l : List Nm) (t : List Bool) (w w' : World) (e : Ending) : Prop := (∃ r : Bool, e = .returned (.bool r) ∧ (r = true → l.length ≤ 50 ∧ t.length ≤ 60 ∧ ∀ s ∈ l, s.length ≤ 100)) ∧ w = w'
def AnyEnd (w w' : World) (e : Ending) : Prop := (∃ r : Bool, e = .returned (.bool r)) ∧ w = w'
def SmR (l : List Nm) (w : World) (vi : Value) (wr : World) : Prop :=
  ∃ k : Nat, k ≤ l.length ∧ vi = .int .i64 k ∧ Hid (∀ s ∈ l.take k, s.length ≤ 100) ∧ w = wr
def AtR (n : Nat) (w : World) (vi : Value) (wr : World) : Prop := ∃ k : Nat, k ≤ n ∧ vi = .int .i64 k ∧ w = wr
set_option maxHeartbeats 1000000 in
set_option maxRecDepth 100000 in
theorem attrs_any (vs : List Att) (a : Option Addr) (c : Nat) (w : World) (hA : AttsAt w (Old w.heap.size) a vs) :
    Calls Try.prog 7 #[.slice a vs.length c] w fun e w' => AnyEnd w w' e := by
  obtain ⟨n, hn⟩ : ∃ n, n = vs.length := ⟨_, rfl⟩
  have HN := Lib.hid hn
  have hbig : n ≤ 9223372036854775807 := by have := hA.1; unfold maxLen at this; omega
  have HA := Lib.hid hA
  rw [← hn]
  clear hn hA
  go_enter Try.func7, Try.ntmps7
  go_wp2_with fail
  go_loopw [3] (fun vi wr => AtR n w vi wr) (fun vi _ => n - (intOf vi).toNat)
  case atStart => exact ⟨0, Nat.zero_le _, rfl, rfl⟩
  case round =>
    obtain ⟨k, hk, rfl, rfl⟩ := hrel
    by_cases hlt : k < n
    · have hlz : (k : Int) < (n : Int) := by omega
      have hkl : k < vs.length := by rw [← HN.out]; exact hlt
      obtain ⟨g, o, hg, hgl, hc⟩ := HA.out.2.2 (by omega)
      obtain ⟨c0, c1, c2, c3⟩ := hc k hkl
      obtain ⟨x, e0, hx⟩ := bs_bytes vs[k].name
      obtain ⟨y, e3, hy⟩ := bs_bytes vs[k].str
      rw [e0] at c0
      rw [e3] at c3
      subst hg
      clear hc c1 c2 e0 e3 hx hy hgl
      by_cases h1 : 300 < x.size
      · have h1z : (300 : Int) < (x.size : Int) := by omega
        go_wp2_with fail
        go_ret
        exact ⟨⟨false, rfl⟩, rfl⟩
      · have h1z : ¬ (300 : Int) < (x.size : Int) := by omega
        by_cases h2 : 300 < y.size
        · have h2z : (300 : Int) < (y.size : Int) := by omega
          go_wp2_with fail
          go_ret
          exact ⟨⟨false, rfl⟩, rfl⟩
        · have h2z : ¬ (300 : Int) < (y.size : Int) := by omega
          go_wp2_with fail
          go_roundw
          case rel => exact ⟨k + 1, by omega, by go_num, rfl⟩
          case measure => simp [intOf]; omega
    · have hlz : ¬ (k : Int) < (n : Int) := by omega
      go_wp2_with fail
      go_ret
      exact ⟨⟨_, rfl⟩, rfl⟩
end Go.Proofs.Ytcajcmaldnmbjaa.Ck
