/-
  Contract of package check's Check: what is told of a filter by a schema. Memory that was there is left as it was.
-/
import Derived.Test.YtmfkpoojfpepaaaGreatDoorMp09
import Derived.Maps.RangeWalk
import Derived.Maps.OwnSet
import Derived.Maps.Ext
import Derived.Lib.SlMapMerge
import Derived.Test.YtmfkpoojfpepaaaGreatDoorMp10
/-
  Sets of names in memory (maps without elements): one that a call makes, one into which another is copied (maps.Copy). Nothing else that was there is turned.
-/
namespace Go.Proofs.YtmfkpoojfpepaaaGreatDoor.Ck
open Go.RowKit Go.Maps Go.Proofs.YtmfkpoojfpepaaaGreatDoor.Fl Go.Proofs.YtmfkpoojfpepaaaGreatDoor.Tk
set_option linter.unusedVariables false
set_option linter.unusedSimpArgs false

theorem lawS : Keyed Tryz.prog 9 := string_keyed Tryz.underlying9
theorem zeroU (w : World) : (zeroValue 54).run Tryz.prog w = .ok (.agg #[]) w := by kernel_rfl
theorem key_bs {x : Nm} (h : x.length ≤ maxLen) : keyOf Tryz.prog 9 (bs x) = some (.string x) := by
  simp [keyOf, bs, mapKey, Tryz.underlying9]
  exact h
/-- Block b is a map of at most m entries; its keys are L's names. -/
def SetAt (W : World) (b m : Nat) (L : List Nm) : Prop := ∃ D : DataW Unit, W.ownsMap Tryz.prog 9 unitElem b m D ∧ ∀ x : Nm, Maps.has D (.string x) = decide (x ∈ L)
theorem SetAt.lt {W : World} {b m : Nat} {L : List Nm} (h : SetAt W b m L) : b < W.heap.size := by
  obtain ⟨D, h, _⟩ := h
  exact h.lt
theorem SetAt.gr {W V : World} {b m : Nat} {L : List Nm} {row : Option Nat} (h : SetAt W b m L) (hg : W.grownBy V row) (hne : some b ≠ row) : SetAt V b m L := by
  obtain ⟨D, h, h2⟩ := h
  exact ⟨D, h.kept hg hne, h2⟩
theorem SetAt.later {W V : World} {b m : Nat} {L : List Nm} (h : SetAt W b m L) (hB : Below W.heap.size W V) : SetAt V b m L := h.gr (gr_of_below (r := none) hB) (by simp)
theorem SetAt.congr {W : World} {b m : Nat} {L M : List Nm} (h : SetAt W b m L) (he : ∀ x, x ∈ L ↔ x ∈ M) : SetAt W b m M := by
  obtain ⟨D, h, h2⟩ := h
  exact ⟨D, h, fun x => by rw [h2 x]; exact decide_eq_decide.2 (he x)⟩
theorem SetAt.mono {W : World} {b m m' : Nat} {L : List Nm} (h : SetAt W b m L) (hm : m ≤ m') : SetAt W b m' L := by
  obtain ⟨D, h, h2⟩ := h
  exact ⟨D, h.mono hm, h2⟩
theorem setAt_made (w : World) : SetAt (w.alloc (.map #[] 0)) w.heap.size 0 [] := ⟨_, World.ownsMap_made w _ _ _, fun x => by simp [has_eq]⟩
theorem put_has {D : DataW Unit} {L : List Nm} {x : Nm} {d : DataW Unit} (hm : IsMap D) (h : ∀ x : Nm, Maps.has D (.string x) = decide (x ∈ L)) (z : Nm) : Maps.has (D.put (.string x) d) (.string z) = decide (z ∈ L ++ [x]) := by
  by_cases e : z = x
  · subst e
    rw [has_put_same hm (show WideAt.IsKeyLit (.string z) from trivial)]
    simp
  · rw [has_put_other (by intro h; exact e (by cases h; rfl)), h z]
    exact decide_eq_decide.2 (by simp [e])
/-- How many keys there are. -/
theorem set_size {W : World} {b m : Nat} {D : DataW Unit} {L : List Nm} (h : W.ownsMap Tryz.prog 9 unitElem b m D) (h2 : ∀ x : Nm, Maps.has D (.string x) = decide (x ∈ L)) : Maps.size D = (sortN L).length := by
  obtain ⟨es, hes, hap, hk⟩ := h.entries lawS
  obtain ⟨es', hes', hk'⟩ := h.keysOf
  subst hes
  obtain rfl : es = es' := by cases hes'; rfl
  have hstr : ∀ p ∈ es, ∃ x, p.1 = .string x := by
    intro p hp
    obtain ⟨key, hkey⟩ := hk' p hp
    obtain ⟨x, _, e, _⟩ := Maps.keyOf_str Tryz.underlying9 hkey
    exact ⟨x, e⟩
  have hperm : (sortN L).Perm (strKeys (.map es)) := perm_strKeys hap hstr (rising_sortN L).nodup fun x => by
    rw [mem_sortN, h2 x, decide_eq_true_eq]
  rw [size_eq, ← hperm.length_eq.symm]
  show es.length = (es.map fun p => strOf p.1).length
  simp

set_option maxHeartbeats 4000000 in
set_option maxRecDepth 100000 in
/-- maps.Copy of two sets. -/
theorem copy_any (bd bs' nd ns : Nat) (L M : List Nm) (w : World) (hd : SetAt w bd nd L) (hs : SetAt w bs' ns M) (hne : bd ≠ bs') (hroom : nd + M.length ≤ 1000000000) :
    Calls Tryz.prog 40 #[.map (some bd), .map (some bs')] w fun e w' => e = .returned (.tuple #[]) ∧ SetAt w' bd (nd + M.length) (L ++ M) ∧ w.grownBy w' (some bd) := by
  obtain ⟨Dd, hd, hdL⟩ := hd
  obtain ⟨Ds, hs, hsM⟩ := hs
  have hbd := hd.lt
  have hbs := hs.lt
  have hsz : Maps.size Ds ≤ M.length := by rw [set_size hs hsM]; exact length_sortN M
  have HD := Lib.hid hdL
  have HS := Lib.hid hsM
  have HR := Lib.hid hroom
  have HSZ := Lib.hid hsz
  clear hdL hsM hroom hsz
  go_enter Tryz.func40, Tryz.ntmps40
  go_wp2_with (first
    | (at_range; refine wpList_range_own _ rfl _ 53 rfl 9 54 lawS Tryz.underlying53 unitElem bs' ns _ rfl hs ?_; intro w0 hrg0 hg0 hs0)
    | go_in)
  go_frame
  go_loopw [4, 5] (fun _ _ wr => ∃ (left : Lit → Bool) (cnt : Nat) (Dout : DataW Unit), wr.ranges Tryz.prog 9 unitElem bs' w.heap.size ns Ds left cnt ∧ cnt ≤ Maps.size Ds ∧
      wr.ownsMap Tryz.prog 9 unitElem bd (nd + (Maps.size Ds - cnt)) Dout ∧ Hid (Merged Dout Dd Ds left) ∧ w.grownBy wr (some bd))
    (fun _ _ wr => wr.rangeLeft bs' w.heap.size)
  case atStart =>
    exact ⟨_, _, Dd, hrg0, Nat.le_refl _, (hd.kept hg0 (by simp)).mono (by omega), Lib.hid (merged_start Dd Ds), hg0.but _⟩
  case round =>
    obtain ⟨left, cnt, Dout, hrg, hcs, hout, hM, hgw⟩ := hrel
    go_wp2_with (first
      | (at_next; refine wpList_next_ranges _ rfl _ rfl 9 lawS unitElem (fun x : Nm => bs x) (fun _ : Unit => Value.agg #[]) (fun key kl hk => by obtain ⟨x, hx, _⟩ := Maps.keyOf_str Tryz.underlying9 hk; exact ⟨x, hx⟩) (fun v y hv => ⟨(), (unitElem_inv hv).1⟩) bs' w.heap.size ns _ _ _ rfl hrg ?_ ?_)
      | go_in)
    · -- nothing is left
      intro hc0 hl0
      go_wp2
      go_end0
      refine ⟨rfl, ⟨Dout, hout.mono (by have := HSZ.out; omega), fun x => ?_⟩, hgw⟩
      have h1 := hM.out.1 (.string x)
      rw [h1, hl0, HD.out x, HS.out x, Bool.not_false, Bool.and_true, ← Bool.decide_or]
      exact decide_eq_decide.2 (by rw [List.mem_append])
    · -- a key has come
      intro x kl yd yp w1 cnt1 hkey hlx hv hat hrg1 hlt hg1 hs1 hen
      obtain ⟨x', ex, rfl, hxl⟩ := Maps.keyOf_str Tryz.underlying9 hkey
      obtain rfl : x = x' := encStr_inj ex
      obtain ⟨rfl, rfl⟩ : yd = .agg [] ∧ yp = [] := by rw [unitElem_mk] at hv; cases hv; exact ⟨rfl, rfl⟩
      have hout1 := hout.kept hg1 (fun e => by have := Option.some.inj e; omega)
      clear hs1
      go_wp2_with (first
        | (at_mapUpdate; refine wpList_mapUpdate_own _ rfl _ _ _ 53 rfl 9 54 lawS Tryz.underlying53 unitElem bd _ _ rfl (hout1.alloc _) (by have := HR.out; have := HSZ.out; unfold maxLen; omega) _ _ _ rfl rfl hkey _ [] unitElem_mk ?_; intro w2 hout2 hg2; go_frame)
        | go_in)
      have hrg2 := (hrg1.alloc (.cells #[] 54)).kept hg2 (fun e => hne (Option.some.inj e).symm) (fun e => by have := Option.some.inj e; omega)
      go_roundw
      case rel =>
        refine ⟨_, cnt1, _, hrg2, by omega, hout2.mono (by omega), Lib.hid (merged_step hM.out hout.isMap (lawS.key hkey) hat), ?_⟩
        exact ((hgw.andThen hg1 (fun j hj => .inl (by cases hj; exact Nat.le_refl _))).andThen (World.grownBy_alloc _ _ none) (fun j hj => by cases hj)).andThen hg2 (fun j hj => .inr hj)
      case measure => rw [hrg2.left_eq, hrg.left_eq]; exact hlt
end Go.Proofs.YtmfkpoojfpepaaaGreatDoor.Ck
/-
  Contract of package check's namesOf: the names of attributes, as a set in a block of the call's own. Memory that was there is left as it was.
-/
namespace Go.Proofs.YtmfkpoojfpepaaaGreatDoor.Ck
open Go.RowKit Go.Maps Go.Proofs.YtmfkpoojfpepaaaGreatDoor.Fl Go.Proofs.YtmfkpoojfpepaaaGreatDoor.Tk
set_option linter.unusedVariables false
set_option linter.unusedSimpArgs false

/-- A set of a call's own. -/
def SetEnd (z m : Nat) (L : List Nm) (w' : World) (e : Ending) : Prop := ∃ b, e = .returned (.map (some b)) ∧ z ≤ b ∧ SetAt w' b m L
theorem set_below {z b : Nat} {w W V : World} (h : Below z w W) (hg : W.grownBy V (some b)) (hb : z ≤ b) (hz : z ≤ w.heap.size) : Below z w V :=
  h.trans ⟨hg.os, hg.tape, hg.output, hg.size, fun i hi => hg.block i (Nat.lt_of_lt_of_le hi (Nat.le_trans hz h.size)) (by intro e; cases e; omega)⟩
def NoR (vs : List Att) (w : World) (vi : Value) (wr : World) : Prop :=
  ∃ j : Nat, j ≤ vs.length ∧ vi = .int .i64 j ∧ SetAt wr w.heap.size j (attNms (vs.take j)) ∧ Below w.heap.size w wr
set_option maxHeartbeats 4000000 in
set_option maxRecDepth 100000 in
theorem namesOf_any (vs : List Att) (a : Option Addr) (c : Nat) (w : World) (h1000 : vs.length ≤ 1000) (hA : AttsAt w (Old w.heap.size) a vs) :
    Calls Tryz.prog 31 #[.slice a vs.length c] w fun e w' => SetEnd w.heap.size vs.length (attNms vs) w' e ∧ Below w.heap.size w w' := by
  have hmm := @run_makeMap Tryz.prog
  obtain ⟨n, hn⟩ : ∃ n, n = vs.length := ⟨_, rfl⟩
  have hbig : n ≤ 1000 := by rw [hn]; exact h1000
  have HN := Lib.hid hn
  have HA := Lib.hid hA
  rw [← hn]
  clear hn hA h1000
  go_enter Tryz.func31, Tryz.ntmps31
  go_wp2_with fail
  go_loopw [9] (fun vi wr => NoR vs w vi wr) (fun vi _ => n - (intOf vi).toNat)
  case atStart => exact ⟨0, Nat.zero_le _, rfl, setAt_made w, (Below.refl _ _).alloc (Nat.le_refl _) _⟩
  case round =>
    obtain ⟨j, hk, rfl, hset, hBB⟩ := hrel
    have HK := Lib.hid hk
    have HBB := Lib.hid hBB
    have HSE := Lib.hid hset
    clear hk hBB hset
    by_cases hlt : j < n
    · have hlz : (j : Int) < (n : Int) := by omega
      have hku : j < vs.length := by rw [← HN.out]; exact hlt
      obtain ⟨g, o, hg, hgl, hc⟩ := (HA.out.later HBB.out).2.2 (by omega)
      obtain ⟨e0, e1, e2, e3⟩ := hc j hku
      obtain ⟨U, hU⟩ : ∃ V, V = vs[j] := ⟨_, rfl⟩
      rw [← hU] at e0 e1 e2 e3
      have HU := Lib.hid (show vs[j]? = some U by rw [hU]; exact List.getElem?_eq_getElem hku)
      have HOK := Lib.hid (HA.out.2.1 U (List.mem_of_getElem? HU.out))
      have hkey := key_bs HOK.out.1
      obtain ⟨s1, q1, f1⟩ := bs_bytes U.name
      obtain ⟨t1, q2, f2⟩ := bs_bytes U.str
      obtain ⟨D, hown, hD⟩ := HSE.out
      have HD := Lib.hid hD
      rw [q1] at e0 hkey
      rw [q2] at e3
      subst hg
      clear hc hU q1 q2 f1 f2 hgl hD
      go_wp2_with (first
        | (at_mapUpdate; refine wpList_mapUpdate_own _ rfl _ _ _ 53 rfl 9 54 lawS Tryz.underlying53 unitElem w.heap.size _ _ rfl (hown.alloc _) (by unfold maxLen; omega) _ _ _ rfl rfl hkey _ [] unitElem_mk ?_; intro w2 hout2 hg2; go_frame)
        | go_in)
      have HB2 := Lib.hid (set_below (HBB.out.alloc HBB.out.size _) hg2 (Nat.le_refl _) (Nat.le_refl _))
      go_roundw
      case rel =>
        refine ⟨j + 1, by have := HN.out; omega, by go_num, ⟨_, hout2, fun x => ?_⟩, HB2.out⟩
        rw [put_has hown.isMap HD.out x, List.take_add_one, HU.out]
        simp [attNms]
      case measure => simp [intOf]; omega
    · have hlz : ¬ (j : Int) < (n : Int) := by omega
      have HF := Lib.hid (show SetAt wr w.heap.size n (attNms vs) by
        have e : j = n := by have := HN.out; have := HK.out; omega
        have h := HSE.out
        rw [e, HN.out, List.take_length, ← HN.out] at h
        exact h)
      go_wp2_with fail
      go_ret
      exact ⟨⟨_, rfl, Nat.le_refl _, HF.out⟩, HBB.out⟩
end Go.Proofs.YtmfkpoojfpepaaaGreatDoor.Ck
/-
  Contract of package check's namesIn: a filter's names, as a set in a block of the call's own. Memory that was there is left as it was.
-/
namespace Go.Proofs.YtmfkpoojfpepaaaGreatDoor.Ck
open Go.RowKit Go.Maps Go.Proofs.YtmfkpoojfpepaaaGreatDoor.Fl Go.Proofs.YtmfkpoojfpepaaaGreatDoor.Tk
set_option linter.unusedVariables false
set_option linter.unusedSimpArgs false

def InOk (f : Flt) : Prop := ∀ (a : Option Addr) (c : Nat) (b : Option Addr) (d : Nat) (w : World), FltAt w (Old w.heap.size) f a b → (nms f).length ≤ 2000000 →
  Calls Tryz.prog 20 #[.agg #[.int .i64 f.kind, bs f.name, bs f.op, .slice a f.vals.length c, .slice b f.parts.length d]] w fun e w' => SetEnd w.heap.size (nms f).length (nms f) w' e ∧ Below w.heap.size w w'
def NiR (pre : List Nm) (ps : List Flt) (w : World) (va vi : Value) (wr : World) : Prop :=
  ∃ (j b : Nat), j ≤ ps.length ∧ vi = .int .i64 j ∧ va = .map (some b) ∧ w.heap.size ≤ b ∧ SetAt wr b (pre ++ nmsL (ps.take j)).length (pre ++ nmsL (ps.take j)) ∧ Below w.heap.size w wr
set_option maxHeartbeats 8000000 in
set_option maxRecDepth 100000 in
theorem in_ok (f : Flt) (ih : ∀ q ∈ f.parts, InOk q) : InOk f := by
  have hmm := @run_makeMap Tryz.prog
  obtain ⟨k, nm, o, vs, ps⟩ := f
  intro a c b d w hF h5k
  simp only [Flt.kind, Flt.name, Flt.op, Flt.vals, Flt.parts] at ih ⊢
  have HNML := Lib.hid hF.small.1
  simp only [Flt.name] at HNML
  have hkey := key_bs HNML.out
  obtain ⟨sn, en, hsn⟩ := bs_bytes nm
  obtain ⟨so, eo, hso⟩ := bs_bytes o
  rw [en, eo]
  rw [en] at hkey
  have IH := Lib.hid ih
  have HP := Lib.hid hF.parts
  simp only [Flt.parts] at HP
  have HSN := Lib.hid hsn
  have hlen : ps.length ≤ 9223372036854775807 := by have := hF.small.2.2.2.2; simp only [Flt.parts] at this; unfold maxLen at this; omega
  obtain ⟨n, hn⟩ : ∃ n, n = vs.length := ⟨_, rfl⟩
  obtain ⟨l, hl⟩ : ∃ n, n = ps.length := ⟨_, rfl⟩
  have HL := Lib.hid hl
  rw [← hl] at hlen
  have HSZ := Lib.hid (show (nmsL ps).length ≤ 2000000 by rw [nms, List.length_append] at h5k; omega)
  rw [← hn, ← hl]
  clear ih hF en eo hso hn hl h5k
  obtain ⟨w1, hw1⟩ : ∃ v, v = w.alloc (.cells #[.int .i64 k, .string sn, .string so, .slice a n c, .slice b l d] 27) := ⟨_, rfl⟩
  have X1 := Lib.hid (show Box w1 w.heap.size (.int .i64 k) (.string sn) (.string so) (.slice a n c) (.slice b l d) by rw [hw1]; exact Box.new ..)
  have HB := Lib.hid (show Below w.heap.size w w1 by rw [hw1]; exact (Below.refl _ _).alloc (Nat.le_refl _) _)
  have HW := Lib.hid hw1
  obtain ⟨w2, hw2⟩ : ∃ v, v = w1.alloc (.map #[] 0) := ⟨_, rfl⟩
  have hz1 : w1.heap.size = w.heap.size + 1 := by rw [hw1]; simp
  have HZ1 := Lib.hid hz1
  have HB12 := Lib.hid (show Below w1.heap.size w1 w2 by rw [hw2]; exact (Below.refl _ _).alloc (Nat.le_refl _) _)
  have HW2 := Lib.hid hw2
  have X2 := Lib.hid (X1.out.later HB12.out)
  obtain ⟨D0, hown, hD0⟩ : SetAt w2 (w.heap.size + 1) 0 [] := by rw [hw2, ← hz1]; exact setAt_made w1
  have HD0 := Lib.hid hD0
  clear hw1 hw2 hD0 hz1
  by_cases hnm : nm = []
  · have HPRE := Lib.hid (show nms (.mk k nm o vs ps) = [] ++ nmsL ps by rw [nms, if_pos hnm])
    obtain rfl : sn = ⟨#[]⟩ := eq_list (by rw [hsn, hnm])
    have HST := Lib.hid (show SetAt w2 (w.heap.size + 1) 0 [] from ⟨D0, hown, HD0.out⟩)
    clear hsn hnm hown
    obtain ⟨p0, p1, p2, p3, p4⟩ := X1.out
    go_enter Tryz.func20, Tryz.ntmps20
    go_wp2_with fail
    rw [← HW.out, ← HW2.out]
    go_loopw [3, 18] (fun va vi wr => NiR [] ps w1 va vi wr) (fun _ vi _ => l - (intOf vi).toNat)
    case atStart => exact ⟨0, _, Nat.zero_le _, rfl, rfl, Nat.le_of_eq HZ1.out, by simpa [nmsL] using HST.out, HB12.out⟩
    case round =>
      obtain ⟨j, b0, hk, rfl, rfl, hb0, hset, hBB⟩ := hrel
      have HK := Lib.hid hk
      have HBB := Lib.hid hBB
      have HBW := Lib.hid (HB.out.trans (hBB.mono HB.out.size))
      have X3 := Lib.hid (X1.out.later hBB)
      have HSE := Lib.hid hset
      have HB0 := Lib.hid hb0
      obtain ⟨p0, p1, p2, p3, p4⟩ := X3.out
      clear hk hBB hset hb0
      by_cases hlt : j < l
      · have hlz : (j : Int) < (l : Int) := by omega
        have hku : j < ps.length := by rw [← HL.out]; exact hlt
        obtain ⟨g, o', a1, c1, b1, d1, hg, hgl, h5, hf⟩ := (HP.out.later HBW.out).get j hku
        obtain ⟨U, hU⟩ : ∃ V, V = ps[j] := ⟨_, rfl⟩
        rw [← hU] at h5 hf
        have HUK := Lib.hid (show ps[j]? = some U by rw [hU]; exact List.getElem?_eq_getElem hku)
        have CI := Lib.hid (fun W h1 h2 => IH.out U (List.mem_of_getElem? HUK.out) a1 c1 b1 d1 W h1 h2)
        have HFU := Lib.hid hf
        have HGL := Lib.hid (show g < wr.heap.size from Nat.lt_of_lt_of_le hgl HBW.out.size)
        have hgw : g < wr.heap.size := HGL.out
        have hbw : w.heap.size < wr.heap.size := X3.out.lt
        subst hg
        obtain ⟨e0, e1, e2, e3, e4⟩ := h5
        rw [Nat.zero_add] at e0 e1 e2 e3 e4
        obtain ⟨un, hun, _⟩ := bs_bytes U.name
        obtain ⟨uo, huo, _⟩ := bs_bytes U.op
        rw [hun] at e1 CI
        rw [huo] at e2 CI
        obtain ⟨uk, huk⟩ : ∃ x, x = U.kind := ⟨_, rfl⟩
        obtain ⟨uv, huv⟩ : ∃ x, x = U.vals.length := ⟨_, rfl⟩
        obtain ⟨up, hup⟩ : ∃ x, x = U.parts.length := ⟨_, rfl⟩
        rw [← huk] at e0 CI
        rw [← huv] at e3 CI
        rw [← hup] at e4 CI
        have HUKD := Lib.hid huk
        have HU5 := Lib.hid (show (nms U).length ≤ 2000000 by have := nmsL_one (List.mem_of_getElem? HUK.out); have := HSZ.out; omega)
        have HLEN := Lib.hid (show ([] ++ nmsL (ps.take (j + 1))).length = ([] ++ nmsL (ps.take j)).length + (nms U).length by rw [nmsL_step HUK.out, List.length_append, List.length_append, List.length_append]; omega)
        have HLE := Lib.hid (show ([] ++ nmsL (ps.take j)).length ≤ 3000000 by have h1 := nmsL_take_le ps j; have h2 := HSZ.out; rw [List.length_append]; simp only [List.length_nil]; omega)
        have HMEM := Lib.hid (show ∀ x, x ∈ [] ++ nmsL (ps.take (j + 1)) ↔ x ∈ ([] ++ nmsL (ps.take j)) ++ nms U by intro x; rw [nmsL_step HUK.out, List.append_assoc])
        clear hU hf hgl hun huo huk huv hup
        obtain ⟨w4, hw4⟩ : ∃ v, v = wr.alloc (.cells #[.int .i64 uk, .string un, .string uo, .slice a1 uv c1, .slice b1 up d1] 27) := ⟨_, rfl⟩
        have HB4 := Lib.hid (show Below wr.heap.size wr w4 by rw [hw4]; exact (Below.refl _ _).alloc (Nat.le_refl _) _)
        have HW4 := Lib.hid hw4
        have HFU4 := Lib.hid ((HFU.out.later (HB4.out.mono HBW.out.size)).wide (Nat.le_trans HBW.out.size HB4.out.size))
        clear hw4
        go_wp2_with fail
        rw [← HW4.out]
        refine Calls.mono (CI.out _ HFU4.out HU5.out) ?_
        rintro e w5 ⟨⟨b2, rfl, hb2, hs2⟩, hb⟩
        have HB5 := Lib.hid (HB4.out.trans (hb.mono HB4.out.size))
        have HB2 := Lib.hid hb2
        have hne : ¬ b0 = b2 := by have := HSE.out.lt; have := HB4.out.size; omega
        obtain ⟨Da, hoa, hDa⟩ := HSE.out.later HB5.out
        obtain ⟨Dm, hom, hDm⟩ := hs2
        have HSA := Lib.hid (show SetAt w5 b0 _ _ from ⟨Da, hoa, hDa⟩)
        have HSM := Lib.hid (show SetAt w5 b2 _ _ from ⟨Dm, hom, hDm⟩)
        clear hb hb2 hDa hDm
        by_cases hsz : ((Maps.size Da : Nat) : Int) < ((Maps.size Dm : Nat) : Int)
        · have CC := Lib.hid (copy_any b2 b0 _ _ _ _ w5 HSM.out HSA.out (Ne.symm hne) (by have := HU5.out; have := HLE.out; omega))
          go_wp2_with (first
            | (at_len; refine wpList_len_own _ rfl _ 53 rfl 9 54 Tryz.underlying53 unitElem b2 _ _ rfl hom ?_)
            | (at_len; refine wpList_len_own _ rfl _ 53 rfl 9 54 Tryz.underlying53 unitElem b0 _ _ rfl hoa ?_)
            | (go_at_call 40; refine Calls.mono CC.out ?_; rintro e w6 ⟨rfl, hs6, hg6⟩)
            | go_in)
          have HB6 := Lib.hid (set_below (HBB.out.trans (HB5.out.mono HBB.out.size)) hg6 (by have := HB2.out; have := HB4.out.size; have := HBB.out.size; omega) (Nat.le_refl _))
          have HS6 := Lib.hid hs6
          clear hs6 hg6
          go_roundw
          case rel =>
            refine ⟨j + 1, b2, by have := HL.out; omega, by go_num, rfl, by have := HB2.out; have := HB4.out.size; have := HBB.out.size; omega, ?_, HB6.out⟩
            have h := HS6.out.congr (fun x => by rw [HMEM.out x]; simp only [List.mem_append]; exact or_comm)
            exact h.mono (by rw [HLEN.out]; omega)
          case measure => simp [intOf]; omega
        · have CC := Lib.hid (copy_any b0 b2 _ _ _ _ w5 HSA.out HSM.out hne (by have := HU5.out; have := HLE.out; omega))
          go_wp2_with (first
            | (at_len; refine wpList_len_own _ rfl _ 53 rfl 9 54 Tryz.underlying53 unitElem b2 _ _ rfl hom ?_)
            | (at_len; refine wpList_len_own _ rfl _ 53 rfl 9 54 Tryz.underlying53 unitElem b0 _ _ rfl hoa ?_)
            | (go_at_call 40; refine Calls.mono CC.out ?_; rintro e w6 ⟨rfl, hs6, hg6⟩)
            | go_in)
          have HB6 := Lib.hid (set_below (HBB.out.trans (HB5.out.mono HBB.out.size)) hg6 HB0.out (Nat.le_refl _))
          have HS6 := Lib.hid hs6
          clear hs6 hg6
          go_roundw
          case rel =>
            refine ⟨j + 1, b0, by have := HL.out; omega, by go_num, rfl, HB0.out, ?_, HB6.out⟩
            have h := HS6.out.congr (fun x => (HMEM.out x).symm)
            exact h.mono (by rw [HLEN.out]; omega)
          case measure => simp [intOf]; omega
      · have hlz : ¬ (j : Int) < (l : Int) := by omega
        have HF := Lib.hid (show SetAt wr b0 (nms (.mk k nm o vs ps)).length (nms (.mk k nm o vs ps)) by
          have h := HSE.out
          rw [show j = ps.length by have := HL.out; have := HK.out; omega, List.take_length, ← HPRE.out] at h
          exact h)
        go_wp2_with fail
        go_ret
        exact ⟨⟨_, rfl, Nat.le_trans HB.out.size HB0.out, HF.out⟩, HBW.out⟩
  · have HPRE := Lib.hid (show nms (.mk k nm o vs ps) = [nm] ++ nmsL ps by rw [nms, if_neg hnm])
    obtain ⟨q0, q1, q2⟩ := ne_list (x := sn) (y := ⟨#[]⟩) (by rw [hsn]; exact hnm)
    have q3 : sn.toList.isEmpty = false := by rw [List.isEmpty_eq_false_iff, Lib.toList_data, hsn]; exact hnm
    clear hsn hnm
    obtain ⟨p0, p1, p2, p3, p4⟩ := X2.out
    go_enter Tryz.func20, Tryz.ntmps20
    go_wp2_with (first
      | (at_mapUpdate; rw [← HW.out, ← HW2.out]; refine wpList_mapUpdate_own _ rfl _ _ _ 53 rfl 9 54 lawS Tryz.underlying53 unitElem (w.heap.size + 1) _ _ rfl hown (by unfold maxLen; omega) _ _ _ rfl rfl hkey _ [] unitElem_mk ?_; intro w3 hout3 hg3; obtain ⟨r0, r1, r2, r3, r4⟩ := X2.out.gr hg3 (by omega); go_frame)
      | go_in)
    go_loopw [3, 18] (fun va vi wr => NiR [nm] ps w1 va vi wr) (fun _ vi _ => l - (intOf vi).toNat)
    case atStart => exact ⟨0, _, Nat.zero_le _, rfl, rfl, Nat.le_of_eq HZ1.out, ⟨_, hout3, fun x => by rw [put_has hown.isMap HD0.out x]; simp [nmsL]⟩, set_below HB12.out hg3 (Nat.le_of_eq HZ1.out) (Nat.le_refl _)⟩
    case round =>
      obtain ⟨j, b0, hk, rfl, rfl, hb0, hset, hBB⟩ := hrel
      have HK := Lib.hid hk
      have HBB := Lib.hid hBB
      have HBW := Lib.hid (HB.out.trans (hBB.mono HB.out.size))
      have X3 := Lib.hid (X1.out.later hBB)
      have HSE := Lib.hid hset
      have HB0 := Lib.hid hb0
      obtain ⟨p0, p1, p2, p3, p4⟩ := X3.out
      clear hk hBB hset hb0
      by_cases hlt : j < l
      · have hlz : (j : Int) < (l : Int) := by omega
        have hku : j < ps.length := by rw [← HL.out]; exact hlt
        obtain ⟨g, o', a1, c1, b1, d1, hg, hgl, h5, hf⟩ := (HP.out.later HBW.out).get j hku
        obtain ⟨U, hU⟩ : ∃ V, V = ps[j] := ⟨_, rfl⟩
        rw [← hU] at h5 hf
        have HUK := Lib.hid (show ps[j]? = some U by rw [hU]; exact List.getElem?_eq_getElem hku)
        have CI := Lib.hid (fun W h1 h2 => IH.out U (List.mem_of_getElem? HUK.out) a1 c1 b1 d1 W h1 h2)
        have HFU := Lib.hid hf
        have HGL := Lib.hid (show g < wr.heap.size from Nat.lt_of_lt_of_le hgl HBW.out.size)
        have hgw : g < wr.heap.size := HGL.out
        have hbw : w.heap.size < wr.heap.size := X3.out.lt
        subst hg
        obtain ⟨e0, e1, e2, e3, e4⟩ := h5
        rw [Nat.zero_add] at e0 e1 e2 e3 e4
        obtain ⟨un, hun, _⟩ := bs_bytes U.name
        obtain ⟨uo, huo, _⟩ := bs_bytes U.op
        rw [hun] at e1 CI
        rw [huo] at e2 CI
        obtain ⟨uk, huk⟩ : ∃ x, x = U.kind := ⟨_, rfl⟩
        obtain ⟨uv, huv⟩ : ∃ x, x = U.vals.length := ⟨_, rfl⟩
        obtain ⟨up, hup⟩ : ∃ x, x = U.parts.length := ⟨_, rfl⟩
        rw [← huk] at e0 CI
        rw [← huv] at e3 CI
        rw [← hup] at e4 CI
        have HUKD := Lib.hid huk
        have HU5 := Lib.hid (show (nms U).length ≤ 2000000 by have := nmsL_one (List.mem_of_getElem? HUK.out); have := HSZ.out; omega)
        have HLEN := Lib.hid (show ([nm] ++ nmsL (ps.take (j + 1))).length = ([nm] ++ nmsL (ps.take j)).length + (nms U).length by rw [nmsL_step HUK.out, List.length_append, List.length_append, List.length_append]; omega)
        have HLE := Lib.hid (show ([nm] ++ nmsL (ps.take j)).length ≤ 3000000 by have h1 := nmsL_take_le ps j; have h2 := HSZ.out; rw [List.length_append]; simp only [List.length_cons, List.length_nil]; omega)
        have HMEM := Lib.hid (show ∀ x, x ∈ [nm] ++ nmsL (ps.take (j + 1)) ↔ x ∈ ([nm] ++ nmsL (ps.take j)) ++ nms U by intro x; rw [nmsL_step HUK.out, List.append_assoc])
        clear hU hf hgl hun huo huk huv hup
        obtain ⟨w4, hw4⟩ : ∃ v, v = wr.alloc (.cells #[.int .i64 uk, .string un, .string uo, .slice a1 uv c1, .slice b1 up d1] 27) := ⟨_, rfl⟩
        have HB4 := Lib.hid (show Below wr.heap.size wr w4 by rw [hw4]; exact (Below.refl _ _).alloc (Nat.le_refl _) _)
        have HW4 := Lib.hid hw4
        have HFU4 := Lib.hid ((HFU.out.later (HB4.out.mono HBW.out.size)).wide (Nat.le_trans HBW.out.size HB4.out.size))
        clear hw4
        go_wp2_with fail
        rw [← HW4.out]
        refine Calls.mono (CI.out _ HFU4.out HU5.out) ?_
        rintro e w5 ⟨⟨b2, rfl, hb2, hs2⟩, hb⟩
        have HB5 := Lib.hid (HB4.out.trans (hb.mono HB4.out.size))
        have HB2 := Lib.hid hb2
        have hne : ¬ b0 = b2 := by have := HSE.out.lt; have := HB4.out.size; omega
        obtain ⟨Da, hoa, hDa⟩ := HSE.out.later HB5.out
        obtain ⟨Dm, hom, hDm⟩ := hs2
        have HSA := Lib.hid (show SetAt w5 b0 _ _ from ⟨Da, hoa, hDa⟩)
        have HSM := Lib.hid (show SetAt w5 b2 _ _ from ⟨Dm, hom, hDm⟩)
        clear hb hb2 hDa hDm
        by_cases hsz : ((Maps.size Da : Nat) : Int) < ((Maps.size Dm : Nat) : Int)
        · have CC := Lib.hid (copy_any b2 b0 _ _ _ _ w5 HSM.out HSA.out (Ne.symm hne) (by have := HU5.out; have := HLE.out; omega))
          go_wp2_with (first
            | (at_len; refine wpList_len_own _ rfl _ 53 rfl 9 54 Tryz.underlying53 unitElem b2 _ _ rfl hom ?_)
            | (at_len; refine wpList_len_own _ rfl _ 53 rfl 9 54 Tryz.underlying53 unitElem b0 _ _ rfl hoa ?_)
            | (go_at_call 40; refine Calls.mono CC.out ?_; rintro e w6 ⟨rfl, hs6, hg6⟩)
            | go_in)
          have HB6 := Lib.hid (set_below (HBB.out.trans (HB5.out.mono HBB.out.size)) hg6 (by have := HB2.out; have := HB4.out.size; have := HBB.out.size; omega) (Nat.le_refl _))
          have HS6 := Lib.hid hs6
          clear hs6 hg6
          go_roundw
          case rel =>
            refine ⟨j + 1, b2, by have := HL.out; omega, by go_num, rfl, by have := HB2.out; have := HB4.out.size; have := HBB.out.size; omega, ?_, HB6.out⟩
            have h := HS6.out.congr (fun x => by rw [HMEM.out x]; simp only [List.mem_append]; exact or_comm)
            exact h.mono (by rw [HLEN.out]; omega)
          case measure => simp [intOf]; omega
        · have CC := Lib.hid (copy_any b0 b2 _ _ _ _ w5 HSA.out HSM.out hne (by have := HU5.out; have := HLE.out; omega))
          go_wp2_with (first
            | (at_len; refine wpList_len_own _ rfl _ 53 rfl 9 54 Tryz.underlying53 unitElem b2 _ _ rfl hom ?_)
            | (at_len; refine wpList_len_own _ rfl _ 53 rfl 9 54 Tryz.underlying53 unitElem b0 _ _ rfl hoa ?_)
            | (go_at_call 40; refine Calls.mono CC.out ?_; rintro e w6 ⟨rfl, hs6, hg6⟩)
            | go_in)
          have HB6 := Lib.hid (set_below (HBB.out.trans (HB5.out.mono HBB.out.size)) hg6 HB0.out (Nat.le_refl _))
          have HS6 := Lib.hid hs6
          clear hs6 hg6
          go_roundw
          case rel =>
            refine ⟨j + 1, b0, by have := HL.out; omega, by go_num, rfl, HB0.out, ?_, HB6.out⟩
            have h := HS6.out.congr (fun x => (HMEM.out x).symm)
            exact h.mono (by rw [HLEN.out]; omega)
          case measure => simp [intOf]; omega
      · have hlz : ¬ (j : Int) < (l : Int) := by omega
        have HF := Lib.hid (show SetAt wr b0 (nms (.mk k nm o vs ps)).length (nms (.mk k nm o vs ps)) by
          have h := HSE.out
          rw [show j = ps.length by have := HL.out; have := HK.out; omega, List.take_length, ← HPRE.out] at h
          exact h)
        go_wp2_with fail
        go_ret
        exact ⟨⟨_, rfl, Nat.le_trans HB.out.size HB0.out, HF.out⟩, HBW.out⟩
theorem in_all : ∀ (N : Nat) (f : Flt), sz f ≤ N → InOk f
  | 0, f, h => by have := sz_pos f; omega
  | N + 1, f, h => in_ok f fun q hq => in_all N q (by
      cases f
      simp only [Flt.parts] at hq
      have := sz_mem hq
      rw [sz] at h
      omega)
end Go.Proofs.YtmfkpoojfpepaaaGreatDoor.Ck
/-
  Contracts of package check: are names all there (hasAll), the names of attributes (namesOf). Memory that was there is left as it was.
-/
namespace Go.Proofs.YtmfkpoojfpepaaaGreatDoor.Ck
open Go.RowKit Go.Maps Go.Proofs.YtmfkpoojfpepaaaGreatDoor.Fl Go.Proofs.YtmfkpoojfpepaaaGreatDoor.Tk
set_option linter.unusedVariables false
set_option linter.unusedSimpArgs false

set_option maxHeartbeats 4000000 in
set_option maxRecDepth 100000 in
theorem hasAll_any (l : List Nm) (t : List Bool) (a : Option Addr) (c : Nat) (b : Option Addr) (d : Nat) (g m : Nat) (L : List Nm) (w : World) (hR : Rising l) (hlen : l.length = t.length) (hS : SchAt w l t a b) (hM : SetAt w g m L) :
    Calls Tryz.prog 25 #[.agg #[.slice a l.length c, .slice b t.length d], .map (some g)] w fun e w' => e = .returned (.bool (L.all (hasN l t))) ∧ Below w.heap.size w w' := by
  obtain ⟨w1, hw1⟩ : ∃ v, v = w.alloc (.cells #[.slice a l.length c, .slice b t.length d] 37) := ⟨_, rfl⟩
  have X1 := Lib.hid (show Two w1 w.heap.size (.slice a l.length c) (.slice b t.length d) by rw [hw1]; exact Two.new ..)
  have HB := Lib.hid (show Below w.heap.size w w1 by rw [hw1]; exact (Below.refl _ _).alloc (Nat.le_refl _) _)
  have HW := Lib.hid hw1
  obtain ⟨D, hown, hD⟩ := hM.later HB.out
  have hgw := hM.lt
  have hsz : w1.heap.size = w.heap.size + 1 := by rw [hw1]; simp
  have HSZ := Lib.hid hsz
  have HDL := Lib.hid hD
  have CS := Lib.hid (fun s W h => search_any l s a c W hR hS.1 h)
  have HS := Lib.hid (hS.fit HB.out)
  have HLEN := Lib.hid hlen
  have HRI := Lib.hid hR
  obtain ⟨n, hn⟩ : ∃ n, n = l.length := ⟨_, rfl⟩
  obtain ⟨k, hk⟩ : ∃ n, n = t.length := ⟨_, rfl⟩
  rw [← hn] at CS X1 HW
  rw [← hk] at X1 HW
  obtain ⟨res, hres⟩ : ∃ r, r = L.all (hasN l t) := ⟨_, rfl⟩
  have HR := Lib.hid hres
  rw [← hres, ← hn, ← hk]
  clear hw1 hM hD hS hlen hR hn hk hres hsz
  go_enter Tryz.func25, Tryz.ntmps25
  go_wp2_with (first
    | (at_range; rw [← HW.out]; refine wpList_range_own _ rfl _ 53 rfl 9 54 lawS Tryz.underlying53 unitElem g m _ rfl hown ?_; intro w0 hrg0 hg0 hs0)
    | go_in)
  try go_frame
  go_loopw [5] (fun _ wr => ∃ (left : Lit → Bool) (cnt : Nat), wr.ranges Tryz.prog 9 unitElem g w1.heap.size m D left cnt ∧ Hid (∀ x : Nm, x ∈ L → left (.string x) = false → hasN l t x = true) ∧ Below w1.heap.size w1 wr)
    (fun _ wr => wr.rangeLeft g w1.heap.size)
  case atStart =>
    refine ⟨_, _, hrg0, Lib.hid fun x hx hl => ?_, ⟨hg0.os, hg0.tape, hg0.output, hg0.size, fun i hi => hg0.block i hi (by simp)⟩⟩
    rw [HDL.out x, decide_eq_true hx] at hl
    cases hl
  case round =>
    obtain ⟨left, cnt, hrg, hall, hBB⟩ := hrel
    have HBB := Lib.hid hBB
    have HALL := Lib.hid hall.out
    clear hall hBB
    go_wp2_with (first
      | (at_next; refine wpList_next_ranges _ rfl _ rfl 9 lawS unitElem (fun x : Nm => bs x) (fun _ : Unit => Value.agg #[]) (fun key kl hk => by obtain ⟨x, hx, _⟩ := Maps.keyOf_str Tryz.underlying9 hk; exact ⟨x, hx⟩) (fun v y hv => ⟨(), (unitElem_inv hv).1⟩) g w1.heap.size m _ _ _ rfl hrg ?_ ?_)
      | go_in)
    · -- nothing is left
      intro hc0 hl0
      have HF := Lib.hid (show res = true by
        rw [HR.out, List.all_eq_true]
        exact fun x hx => HALL.out x hx (hl0 _))
      clear hl0
      go_wp2_with fail
      go_ret
      exact ⟨by rw [HF.out]; rfl, HB.out.trans (HBB.out.mono HB.out.size)⟩
    · -- a key has come
      intro x kl yd yp w2 cnt1 hkey hlx hv hat hrg1 hlt hg1 hs1 hen
      obtain ⟨x', ex, rfl, hxl⟩ := Maps.keyOf_str Tryz.underlying9 hkey
      obtain rfl : x = x' := encStr_inj ex
      have hB2 : Below w1.heap.size w1 w2 := HBB.out.trans ⟨hg1.os, hg1.tape, hg1.output, hg1.size, fun i hi => hg1.block i (Nat.lt_of_lt_of_le hi HBB.out.size) (by intro e; cases e; omega)⟩
      have HB2 := Lib.hid hB2
      have HX := Lib.hid (show x ∈ L by
        have h := has_true_of_atKey hat
        rw [HDL.out x, decide_eq_true_eq] at h
        exact h)
      obtain ⟨p0, p1⟩ := X1.out.later hB2
      obtain ⟨s, e0, hs⟩ := bs_bytes x
      have HXS := Lib.hid hs
      rw [e0] at hen
      have HEN := Lib.hid hen
      have HLX := Lib.hid hlx
      clear hs1 hB2 hkey hat hlx hv ex
      rw [e0]
      go_wp2_with fail
      refine Calls.mono (CS.out s _ (HS.out.fit HB2.out).2.1) ?_
      rintro e w3 ⟨⟨k', hk', rfl, h1, h2⟩, hb⟩
      have HB3 := Lib.hid (HB2.out.trans (hb.mono HB2.out.size))
      have hrg3 := hrg1.kept (gr_of_below (r := none) hb) (by simp) (by simp)
      have HH := Lib.hid (search_has HRI.out HLEN.out h1 h2)
      clear hb h1 h2
      by_cases he : l[k']? = some s.data.toList
      · rw [decide_eq_true he]
        have HY := Lib.hid (show hasN l t x = true by rw [← HXS.out, HH.out]; exact decide_eq_true he)
        clear he
        go_wp2_with fail
        go_roundw
        case rel =>
          refine ⟨_, cnt1, hrg3, Lib.hid fun y hy hl => ?_, HB3.out⟩
          by_cases e : y = x
          · rw [e]; exact HY.out
          · refine HALL.out y hy ?_
            rw [sameKey_ne (by intro h; exact e (by cases h; rfl))] at hl
            simpa using hl
        case measure => rw [hrg3.left_eq, hrg.left_eq]; exact hlt
      · rw [decide_eq_false he]
        have HY := Lib.hid (show res = false by
          rw [HR.out, List.all_eq_false]
          exact ⟨x, HX.out, by rw [← HXS.out, HH.out]; simpa using he⟩)
        clear he
        go_wp2_with fail
        go_ret
        exact ⟨by rw [HY.out]; rfl, HB.out.trans (HB3.out.mono HB.out.size)⟩
end Go.Proofs.YtmfkpoojfpepaaaGreatDoor.Ck
namespace Go.Proofs.YtmfkpoojfpepaaaGreatDoor.Ck
open Go.RowKit Go.Maps Go.Proofs.YtmfkpoojfpepaaaGreatDoor.Fl Go.Proofs.YtmfkpoojfpepaaaGreatDoor.Tk
set_option linter.unusedVariables false
set_option linter.unusedSimpArgs false

/-- An error by its number; 0: none. -/
def errV (n : Nat) : Value := if n = 0 then .nilIface else .iface 44 (.int .i64 (n : Nat))
theorem fit_flt {W V : World} {f : Flt} {a b : Option Addr} (h : FltAt W (Old W.heap.size) f a b) (hB : Below W.heap.size W V) : FltAt V (Old V.heap.size) f a b := (h.later hB).wide hB.size
set_option maxHeartbeats 8000000 in
set_option maxRecDepth 100000 in
theorem check_any (l : List Nm) (t : List Bool) (a0 : Option Addr) (c0 : Nat) (b0 : Option Addr) (d0 : Nat) (f : Flt) (a : Option Addr) (c : Nat) (b : Option Addr) (d : Nat) (w : World) (hE : LaidE w) (hS : SchAt w l t a0 b0) (hF : FltAt w (Old w.heap.size) f a b) :
    Calls Tryz.prog 12 #[.agg #[.slice a0 l.length c0, .slice b0 t.length d0], .agg #[.int .i64 f.kind, bs f.name, bs f.op, .slice a f.vals.length c, .slice b f.parts.length d]] w fun e w' => e = .returned (errV (chkN l t f)) ∧ Below w.heap.size w w' := by
  have CS := Lib.hid (fun W h1 h2 => isSchema_any l t a0 c0 b0 d0 W h1 h2)
  have CM := Lib.hid (fun W h1 h2 => filterMay_any f a c b d W h1 h2)
  have CN := Lib.hid (fun W h1 h2 => in_all (sz f) f (Nat.le_refl _) a c b d W h1 h2)
  have CH := Lib.hid (fun g m L W h1 h2 h3 h4 => hasAll_any l t a0 c0 b0 d0 g m L W h1 h2 h3 h4)
  have CT := Lib.hid (fun h1 h2 W h3 h4 => typ_every l t a0 c0 b0 d0 h1 h2 (sz f) f (Nat.le_refl _) a c b d W h3 h4)
  obtain ⟨sn, en, hsn⟩ := bs_bytes f.name
  obtain ⟨so, eo, hso⟩ := bs_bytes f.op
  rw [en, eo] at CM CN CT ⊢
  obtain ⟨k, hk⟩ : ∃ x, x = f.kind := ⟨_, rfl⟩
  obtain ⟨nv, hnv⟩ : ∃ x, x = f.vals.length := ⟨_, rfl⟩
  obtain ⟨np, hnp⟩ : ∃ x, x = f.parts.length := ⟨_, rfl⟩
  obtain ⟨nn, hnn⟩ : ∃ x, x = l.length := ⟨_, rfl⟩
  obtain ⟨nt, hnt⟩ : ∃ x, x = t.length := ⟨_, rfl⟩
  have HNN := Lib.hid hnn
  have HNT := Lib.hid hnt
  rw [← hk, ← hnv, ← hnp] at CM CN CT ⊢
  rw [← hnn, ← hnt] at CS CH CT ⊢
  have HE := Lib.hid hE
  have HS := Lib.hid hS
  have HF := Lib.hid hF
  obtain ⟨res, hres⟩ : ∃ x, x = chkN l t f := ⟨_, rfl⟩
  have HR := Lib.hid hres
  rw [← hres]
  clear hE hS hF hres hk hnv hnp hnn hnt en eo hsn hso
  obtain ⟨w1, hw1⟩ : ∃ v, v = (w.alloc (.cells #[.slice a0 nn c0, .slice b0 nt d0] 37)).alloc (.cells #[.int .i64 k, .string sn, .string so, .slice a nv c, .slice b np d] 27) := ⟨_, rfl⟩
  have hs1 : (w.alloc (.cells #[.slice a0 nn c0, .slice b0 nt d0] 37)).heap.size = w.heap.size + 1 := by simp
  have X1 := Lib.hid (show Two w1 w.heap.size (.slice a0 nn c0) (.slice b0 nt d0) by rw [hw1]; exact (Two.new ..).later ((Below.refl _ _).alloc (Nat.le_refl _) _))
  have Y1 := Lib.hid (show Box w1 (w.heap.size + 1) (.int .i64 k) (.string sn) (.string so) (.slice a nv c) (.slice b np d) by rw [hw1, ← hs1]; exact Box.new ..)
  have HB := Lib.hid (show Below w.heap.size w w1 by rw [hw1]; exact ((Below.refl _ _).alloc (Nat.le_refl _) _).alloc (by rw [hs1]; omega) _)
  have HW := Lib.hid hw1
  clear hw1 hs1
  go_enter Tryz.func12, Tryz.ntmps12
  go_wp2_with fail
  rw [← HW.out]
  refine Calls.mono (CS.out _ (HE.out.later HB.out) (HS.out.fit HB.out)) ?_
  rintro e w2 ⟨rfl, hb⟩
  have HB2 := Lib.hid (HB.out.trans (hb.mono HB.out.size))
  have X2 := Lib.hid (X1.out.later hb)
  have Y2 := Lib.hid (Y1.out.later hb)
  obtain ⟨q0, q1⟩ := X2.out
  obtain ⟨p0, p1, p2, p3, p4⟩ := Y2.out
  clear hb
  cases hsb : schB l t with
  | false =>
    have HF0 := Lib.hid (show res = 1 by rw [HR.out]; unfold chkN; rw [hsb]; simp)
    go_wp2_with fail
    go_ret
    exact ⟨by rw [HF0.out]; rfl, HB2.out⟩
  | true =>
    have HSB := Lib.hid hsb
    have HRI := Lib.hid (sch_rising hsb)
    have HNE := Lib.hid (show nn = nt by rw [HNN.out, HNT.out]; exact HRI.out.2)
    clear hsb
    go_wp2_with fail
    refine Calls.mono (CM.out _ (HE.out.later HB2.out) (fit_flt HF.out HB2.out)) ?_
    rintro e w3 ⟨rfl, hb⟩
    have HB3 := Lib.hid (HB2.out.trans (hb.mono HB2.out.size))
    have X3 := Lib.hid (X2.out.later hb)
    have Y3 := Lib.hid (Y2.out.later hb)
    clear hb q0 q1 p0 p1 p2 p3 p4
    obtain ⟨q0, q1⟩ := X3.out
    obtain ⟨p0, p1, p2, p3, p4⟩ := Y3.out
    cases hmb : mayB f 10 60 with
    | false =>
      have HF0 := Lib.hid (show res = 1 by rw [HR.out]; unfold chkN; rw [hmb]; simp)
      go_wp2_with fail
      go_ret
      exact ⟨by rw [HF0.out]; rfl, HB3.out⟩
    | true =>
      have HR2 := Lib.hid (show res = if (nms f).all (hasN l t) = true then (if typB l t f = true then 0 else 4) else 9 by rw [HR.out]; unfold chkN; rw [if_pos ⟨HSB.out, hmb⟩])
      have H60 := Lib.hid (show (nms f).length ≤ 2000000 by have := may_nms hmb; omega)
      clear hmb
      have HQ := Lib.hid (show ∀ W, Below w3.heap.size w3 W → (fun W => W.cell? ⟨w.heap.size, 0, none⟩ = some (.slice a0 nn c0) ∧ W.cell? ⟨w.heap.size, 1, none⟩ = some (.slice b0 nt d0) ∧ W.cell? ⟨w.heap.size + 1, 0, none⟩ = some (.int .i64 k) ∧ W.cell? ⟨w.heap.size + 1, 1, none⟩ = some (.string sn) ∧ W.cell? ⟨w.heap.size + 1, 2, none⟩ = some (.string so) ∧ W.cell? ⟨w.heap.size + 1, 3, none⟩ = some (.slice a nv c) ∧ W.cell? ⟨w.heap.size + 1, 4, none⟩ = some (.slice b np d) ∧ Below w3.heap.size w3 W) W from fun W hW => by
        obtain ⟨x0, x1⟩ := X3.out.later hW
        obtain ⟨y0, y1, y2, y3, y4⟩ := Y3.out.later hW
        exact ⟨x0, x1, y0, y1, y2, y3, y4, hW⟩)
      obtain ⟨ok, hok⟩ : ∃ x, x = (nms f).all (hasN l t) := ⟨_, rfl⟩
      have HOK := Lib.hid hok
      rw [← hok] at HR2
      have CHF := Lib.hid (fun g m W h1 h2 => CH.out g m (nms f) W HRI.out.1 HNE.out h1 h2)
      rw [← hok] at CHF
      clear hok
      cases ok with
      | false =>
        have HF0 := Lib.hid (show res = 9 by rw [HR2.out]; simp)
        go_wp2_with fail
        refine wp_region_held_drew (S := (fun W => W.cell? ⟨w.heap.size, 0, none⟩ = some (.slice a0 nn c0) ∧ W.cell? ⟨w.heap.size, 1, none⟩ = some (.slice b0 nt d0) ∧ W.cell? ⟨w.heap.size + 1, 0, none⟩ = some (.int .i64 k) ∧ W.cell? ⟨w.heap.size + 1, 1, none⟩ = some (.string sn) ∧ W.cell? ⟨w.heap.size + 1, 2, none⟩ = some (.string so) ∧ W.cell? ⟨w.heap.size + 1, 3, none⟩ = some (.slice a nv c) ∧ W.cell? ⟨w.heap.size + 1, 4, none⟩ = some (.slice b np d) ∧ Below w3.heap.size w3 W)) (by kernel_rfl) (HQ.out _ (Below.refl _ _).drew) (fun hHeld => ?_)
        refine wpAnyH_take (i := 0) (v := ?vA0) rfl (by kernel_rfl) (by kernel_rfl) (by kernel_rfl) (fun _ _ _ h => h) (Or.inl ⟨by rfl, ?yA0⟩) hHeld ?rA0
        case yA0 => (intro W hSw; simp only [List.getElem_toArray, List.getElem_cons_zero]; go_simp; try (with_reducible rfl))
        simp only [List.getElem_toArray, List.getElem_cons_zero, Act.put, List.setIfInBounds_toArray, List.set_cons_zero, List.set_cons_succ]
        refine wpAnyH_take (i := 1) (v := ?vA1) rfl (by kernel_rfl) (by kernel_rfl) (by kernel_rfl) (fun _ _ _ h => h) (Or.inl ⟨by rfl, ?yA1⟩) hHeld ?rA1
        case yA1 => (intro W hSw; simp only [List.getElem_toArray, List.getElem_cons_succ, List.getElem_cons_zero]; go_simp; try (with_reducible rfl))
        simp only [List.getElem_toArray, List.getElem_cons_succ, List.getElem_cons_zero, Act.put, List.setIfInBounds_toArray, List.set_cons_zero, List.set_cons_succ]
        refine wpAnyH_ready (rs := [2]) (by kernel_rfl) (by simp) (AllReadyH.cons rfl (fun K hK => ?_) AllReadyH.nil)
        simp only [List.getElem_toArray, List.getElem_cons_succ, List.getElem_cons_zero]
        go_simp
        go_at_call 20; refine (CN.out _ (fit_flt HF.out (HB3.out.trans (hHeld.2.2.2.2.2.2.2.mono HB3.out.size))) H60.out).mono ?_; rintro e wq ⟨⟨g, rfl, hg, hset⟩, hb1⟩
        try go_wp2_with fail
        refine hK.out _ _ (HQ.out _ (hHeld.2.2.2.2.2.2.2.trans (hb1.mono hHeld.2.2.2.2.2.2.2.size))) (fun hHeld1 => ?_)
        clear hK K hHeld
        have hHeld := hHeld1; clear hHeld1
        try simp only [List.getElem_toArray, List.getElem_cons_succ, List.getElem_cons_zero, Act.put, List.setIfInBounds_toArray, List.set_cons_zero, List.set_cons_succ]
        refine wpAnyH_ready (rs := [3]) (by kernel_rfl) (by simp) (AllReadyH.cons rfl (fun K hK => ?_) AllReadyH.nil)
        simp only [List.getElem_toArray, List.getElem_cons_succ, List.getElem_cons_zero]
        go_simp
        go_at_call 25; refine (CHF.out g _ _ (HS.out.fit (HB3.out.trans (hHeld.2.2.2.2.2.2.2.mono HB3.out.size))) (by first | exact hset | exact hset.later (Below.refl _ _).drew)).mono ?_; rintro e wq2 ⟨rfl, hb1⟩
        try go_wp2_with fail
        refine hK.out _ _ (HQ.out _ (hHeld.2.2.2.2.2.2.2.trans (hb1.mono hHeld.2.2.2.2.2.2.2.size))) (fun hHeld1 => ?_)
        clear hK K hHeld
        have hHeld := hHeld1; clear hHeld1
        try simp only [List.getElem_toArray, List.getElem_cons_succ, List.getElem_cons_zero, Act.put, List.setIfInBounds_toArray, List.set_cons_zero, List.set_cons_succ]
        refine wpAnyH_take (i := 4) (v := ?vA4) rfl (by kernel_rfl) (by kernel_rfl) (by kernel_rfl) (fun _ _ _ h => h) (Or.inl ⟨by rfl, ?yA4⟩) hHeld ?rA4
        case yA4 => (intro W hSw; simp only [List.getElem_toArray, List.getElem_cons_succ, List.getElem_cons_zero]; go_simp; try (with_reducible rfl))
        simp only [List.getElem_toArray, List.getElem_cons_succ, List.getElem_cons_zero, Act.put, List.setIfInBounds_toArray, List.set_cons_zero, List.set_cons_succ]
        refine wpAnyH_take (i := 5) (v := ?vA5) rfl (by kernel_rfl) (by kernel_rfl) (by kernel_rfl) (fun _ _ _ h => h) (Or.inl ⟨by rfl, ?yA5⟩) hHeld ?rA5
        case yA5 => (intro W hSw; simp only [List.getElem_toArray, List.getElem_cons_succ, List.getElem_cons_zero]; go_simp; try (with_reducible rfl))
        simp only [List.getElem_toArray, List.getElem_cons_succ, List.getElem_cons_zero, Act.put, List.setIfInBounds_toArray, List.set_cons_zero, List.set_cons_succ]
        refine wpAnyH_done (by kernel_rfl) ?_ _
        have B7 := Lib.hid (HB3.out.trans (hHeld.2.2.2.2.2.2.2.mono HB3.out.size))
        clear hHeld hset hg hb1
        go_wp2_with fail
        go_ret
        exact ⟨by rw [HF0.out]; rfl, B7.out⟩
      | true =>
        obtain ⟨ty, hty⟩ : ∃ x, x = typB l t f := ⟨_, rfl⟩
        have HTY := Lib.hid hty
        have CTF := Lib.hid (CT.out HRI.out.1 HNE.out)
        rw [← hty] at HR2 CTF
        clear hty
        go_wp2_with fail
        refine wp_region_held_drew (S := (fun W => W.cell? ⟨w.heap.size, 0, none⟩ = some (.slice a0 nn c0) ∧ W.cell? ⟨w.heap.size, 1, none⟩ = some (.slice b0 nt d0) ∧ W.cell? ⟨w.heap.size + 1, 0, none⟩ = some (.int .i64 k) ∧ W.cell? ⟨w.heap.size + 1, 1, none⟩ = some (.string sn) ∧ W.cell? ⟨w.heap.size + 1, 2, none⟩ = some (.string so) ∧ W.cell? ⟨w.heap.size + 1, 3, none⟩ = some (.slice a nv c) ∧ W.cell? ⟨w.heap.size + 1, 4, none⟩ = some (.slice b np d) ∧ Below w3.heap.size w3 W)) (by kernel_rfl) (HQ.out _ (Below.refl _ _).drew) (fun hHeld => ?_)
        refine wpAnyH_take (i := 0) (v := ?vB0) rfl (by kernel_rfl) (by kernel_rfl) (by kernel_rfl) (fun _ _ _ h => h) (Or.inl ⟨by rfl, ?yB0⟩) hHeld ?rB0
        case yB0 => (intro W hSw; simp only [List.getElem_toArray, List.getElem_cons_zero]; go_simp; try (with_reducible rfl))
        simp only [List.getElem_toArray, List.getElem_cons_zero, Act.put, List.setIfInBounds_toArray, List.set_cons_zero, List.set_cons_succ]
        refine wpAnyH_take (i := 1) (v := ?vB1) rfl (by kernel_rfl) (by kernel_rfl) (by kernel_rfl) (fun _ _ _ h => h) (Or.inl ⟨by rfl, ?yB1⟩) hHeld ?rB1
        case yB1 => (intro W hSw; simp only [List.getElem_toArray, List.getElem_cons_succ, List.getElem_cons_zero]; go_simp; try (with_reducible rfl))
        simp only [List.getElem_toArray, List.getElem_cons_succ, List.getElem_cons_zero, Act.put, List.setIfInBounds_toArray, List.set_cons_zero, List.set_cons_succ]
        refine wpAnyH_ready (rs := [2]) (by kernel_rfl) (by simp) (AllReadyH.cons rfl (fun K hK => ?_) AllReadyH.nil)
        simp only [List.getElem_toArray, List.getElem_cons_succ, List.getElem_cons_zero]
        go_simp
        go_at_call 20; refine (CN.out _ (fit_flt HF.out (HB3.out.trans (hHeld.2.2.2.2.2.2.2.mono HB3.out.size))) H60.out).mono ?_; rintro e wq ⟨⟨g, rfl, hg, hset⟩, hb1⟩
        try go_wp2_with fail
        refine hK.out _ _ (HQ.out _ (hHeld.2.2.2.2.2.2.2.trans (hb1.mono hHeld.2.2.2.2.2.2.2.size))) (fun hHeld1 => ?_)
        clear hK K hHeld
        have hHeld := hHeld1; clear hHeld1
        try simp only [List.getElem_toArray, List.getElem_cons_succ, List.getElem_cons_zero, Act.put, List.setIfInBounds_toArray, List.set_cons_zero, List.set_cons_succ]
        refine wpAnyH_ready (rs := [3]) (by kernel_rfl) (by simp) (AllReadyH.cons rfl (fun K hK => ?_) AllReadyH.nil)
        simp only [List.getElem_toArray, List.getElem_cons_succ, List.getElem_cons_zero]
        go_simp
        go_at_call 25; refine (CHF.out g _ _ (HS.out.fit (HB3.out.trans (hHeld.2.2.2.2.2.2.2.mono HB3.out.size))) (by first | exact hset | exact hset.later (Below.refl _ _).drew)).mono ?_; rintro e wq2 ⟨rfl, hb1⟩
        try go_wp2_with fail
        refine hK.out _ _ (HQ.out _ (hHeld.2.2.2.2.2.2.2.trans (hb1.mono hHeld.2.2.2.2.2.2.2.size))) (fun hHeld1 => ?_)
        clear hK K hHeld
        have hHeld := hHeld1; clear hHeld1
        try simp only [List.getElem_toArray, List.getElem_cons_succ, List.getElem_cons_zero, Act.put, List.setIfInBounds_toArray, List.set_cons_zero, List.set_cons_succ]
        refine wpAnyH_take (i := 4) (v := ?vB4) rfl (by kernel_rfl) (by kernel_rfl) (by kernel_rfl) (fun _ _ _ h => h) (Or.inl ⟨by rfl, ?yB4⟩) hHeld ?rB4
        case yB4 => (intro W hSw; simp only [List.getElem_toArray, List.getElem_cons_succ, List.getElem_cons_zero]; go_simp; try (with_reducible rfl))
        simp only [List.getElem_toArray, List.getElem_cons_succ, List.getElem_cons_zero, Act.put, List.setIfInBounds_toArray, List.set_cons_zero, List.set_cons_succ]
        refine wpAnyH_take (i := 5) (v := ?vB5) rfl (by kernel_rfl) (by kernel_rfl) (by kernel_rfl) (fun _ _ _ h => h) (Or.inl ⟨by rfl, ?yB5⟩) hHeld ?rB5
        case yB5 => (intro W hSw; simp only [List.getElem_toArray, List.getElem_cons_succ, List.getElem_cons_zero]; go_simp; try (with_reducible rfl))
        simp only [List.getElem_toArray, List.getElem_cons_succ, List.getElem_cons_zero, Act.put, List.setIfInBounds_toArray, List.set_cons_zero, List.set_cons_succ]
        refine wpAnyH_done (by kernel_rfl) ?_ _
        have B7 := Lib.hid (HB3.out.trans (hHeld.2.2.2.2.2.2.2.mono HB3.out.size))
        obtain ⟨x0, x1, y0, y1, y2, y3, y4, -⟩ := hHeld
        clear hset hg hb1
        go_wp2_with fail
        refine Calls.mono (CTF.out _ (fit_flt HF.out B7.out) (HS.out.fit B7.out)) ?_
        rintro e w8 ⟨rfl, hb⟩
        have HB8 := Lib.hid (B7.out.trans (hb.mono B7.out.size))
        clear hb
        cases ty with
        | false =>
          have HF0 := Lib.hid (show res = 4 by rw [HR2.out]; simp)
          go_wp2_with fail
          go_ret
          exact ⟨by rw [HF0.out]; rfl, HB8.out⟩
        | true =>
          have HF0 := Lib.hid (show res = 0 by rw [HR2.out]; simp)
          go_wp2_with fail
          go_ret
          exact ⟨by rw [HF0.out]; rfl, HB8.out⟩
end Go.Proofs.YtmfkpoojfpepaaaGreatDoor.Ck
