/-
  What the functions of package filter's reader that read a part of a filter tell; blocks that they make. No function of the program here.
-/
import Derived.Test.YtjffnjiggcfhcaaGreatDoorMt10
import Derived.Lib.AppendIntMem
import Derived.Maps.AppendAt
import Derived.OwnWalk
/-
  Contracts of valueText and valuesText of package filter, and of the document's answer value: values' texts. Memory that was there is left as it was.
-/
namespace Go.Proofs.YtjffnjiggcfhcaaGreatDoor.Fl
open Go.RowKit Go.Proofs.YtjffnjiggcfhcaaGreatDoor.Tk
set_option linter.unusedVariables false
set_option linter.unusedSimpArgs false

/-- strconv's table is there. -/
def LaidT (w : World) : Prop := Lib.TabIs Tryz.prog w "internal/strconv.uint64pow10" .u64 Lib.pow10Tab
theorem gTab : Tryz.prog.globalNamed "internal/strconv.uint64pow10" = some 0 := by kernel_rfl
theorem LaidT.later {w V : World} (h : LaidT w) (hb : Below w.heap.size w V) : LaidT V := by
  have l1 : 0 < w.heap.size := by
    have h2 : w.var? Tryz.prog "internal/strconv.uint64pow10" = some (Lib.pow10Tab.map fun z => Value.int .u64 z).toArray := h
    have := World.var?_cell gTab h2 0
    refine World.block_lt_of_cell? _ _ (u := .int .u64 1) (this.trans ?_)
    simp [Lib.pow10Tab]
  exact var?_below hb gTab l1 h
theorem itoa_any (n : Int) (h0 : -9223372036854775808 ≤ n) (h1 : n ≤ 9223372036854775807) (w : World) (hT : LaidT w) :
    Calls Tryz.prog 36 #[.int .i64 n, .int .i64 10] w fun e w' => e = .returned (.string ⟨(Lib.itoa n).toArray⟩) ∧ Below w.heap.size w w' := by
  refine (Tryz.strconv_FormatInt_10 n h0 h1 w hT).mono ?_
  rintro e w1 ⟨rfl, k, os, rfl⟩
  exact ⟨rfl, Lib.below_grow _ _ (Nat.le_refl _) _ _⟩
theorem own_lt' {W : World} {base n k : Nat} {t : TypeId} {v : Value} {xs : List Value} (h : W.ownsRow base t k v n xs) {g : Nat} (hg : v.ownBlock = some g) : g < W.heap.size ∧ base ≤ g := by
  rcases h.2 with ⟨rfl, _⟩ | ⟨g', cap, cur, rfl, hb, hh, _⟩
  · simp [Value.ownBlock] at hg
  · simp [Value.ownBlock] at hg
    subst hg
    exact ⟨(Array.getElem?_eq_some_iff.1 hh).1, hb⟩
theorem own_later {W w1 : World} {base n k : Nat} {t : TypeId} {v : Value} {xs : List Value} (h : W.ownsRow base t k v n xs) (hb : Below W.heap.size W w1) : w1.ownsRow base t k v n xs :=
  h.kept (row := none) ⟨hb.os, hb.tape, hb.output, hb.size, fun k hk _ => hb.block k hk⟩ (by cases v.ownBlock <;> simp)
theorem own_below {W w1 v : World} {n k : Nat} {t : TypeId} {u : Value} {xs : List Value} (hB : Below v.heap.size v W) (h : W.ownsRow v.heap.size t k u n xs) (hg : W.grownBy w1 u.ownBlock) : Below v.heap.size v w1 :=
  hB.grown hg hB.size fun k hk => (own_lt' h hk).2
theorem infoStr : (Tryz.prog.info? 9).map (fun i => (i.zero, i.size, i.bytes)) = some (some (.string ⟨#[]⟩), 1, 16) := by kernel_rfl
theorem info_cut' {P : Program} {t : TypeId} {z : Value} {s b : Nat} (h : (P.info? t).map (fun i => (i.zero, i.size, i.bytes)) = some (some z, s, b)) : ∃ i, P.info? t = some i ∧ i.zero = some z ∧ i.size = s ∧ i.bytes = b := by
  cases e : P.info? t with
  | none => rw [e] at h; simp at h
  | some i => rw [e] at h; simp at h; exact ⟨i, rfl, h.1, h.2.1, h.2.2⟩
/-- A row of strings that the call owns, to be read. -/
theorem own_strs {W : World} {base : Nat} {v : Value} {n : Nat} {ls : List (List UInt8)} (h : W.ownsRow base 9 1 v n (ls.map bs)) (h0 : 0 < n) : ∃ g cap, v = .slice (some ⟨g, 0, none⟩) n cap ∧ g < W.heap.size ∧ n ≤ cap ∧
    ∀ (j : Nat) (x : ByteArray), (ls.map fun l => (⟨l.toArray⟩ : ByteArray))[j]? = some x → W.cell? ⟨g, 0 + j, none⟩ = some (.string x) := by
  have hlen : ls.length = n := by have := h.1; simpa using this
  have h2 := h
  rcases h.2 with ⟨rfl, e⟩ | ⟨g, cap, cur, rfl, _, hh, hnc, _⟩
  · omega
  · refine ⟨g, cap, rfl, (Array.getElem?_eq_some_iff.1 hh).1, hnc, fun j x hx => ?_⟩
    rw [List.getElem?_map] at hx
    obtain ⟨l, hl, rfl⟩ := Option.map_eq_some_iff.1 hx
    have hj : j < n := by have := (List.getElem?_eq_some_iff.1 hl).1; omega
    have := h2.cellAt j (by omega)
    rw [List.getElem?_map, hl] at this
    simpa [bs] using this
/-- strings.Join of a row that the call owns. -/
theorem join_any (ls : List (List UInt8)) (sep : ByteArray) (v : Value) (base n : Nat) (w : World) (h : w.ownsRow base 9 1 v n (ls.map bs)) (h0 : 0 < n) (hn : n ≤ 1000000) (hl : (Lib.join ls sep.data.toList).length ≤ 140737488355328) :
    Calls Tryz.prog 48 #[v, .string sep] w fun e w' => e = .returned (.string ⟨(Lib.join ls sep.data.toList).toArray⟩) ∧ Below w.heap.size w w' := by
  have hlen : ls.length = n := by have := h.1; simpa using this
  obtain ⟨g, cap, rfl, hg, hnc, hcs⟩ := own_strs h h0
  have e1 : (ls.map fun l => (⟨l.toArray⟩ : ByteArray)).map (·.data.toList) = ls := by
    rw [List.map_map]
    conv => rhs; rw [← List.map_id ls]
    rfl
  have CJ := Tryz.strings_Join g 0 cap (ls.map fun l => (⟨l.toArray⟩ : ByteArray)) sep w hcs hg (by rw [List.length_map]; omega) (by rw [List.length_map]; omega) (by rw [e1]; exact hl)
  rw [e1, List.length_map, hlen] at CJ
  exact CJ
theorem valueText_any (sn : ByteArray) (v : Att) (ss : ByteArray) (hs : ss.data.toList = v.str) (hv : v.str.length ≤ 200) (hr : rngV v) (w : World) (hT : LaidT w) :
    Calls Tryz.prog 32 #[.agg #[.string sn, .bool v.text, .int .i64 v.num, .string ss]] w fun e w' => e = .returned (.string ⟨(showV v).toArray⟩) ∧ Below w.heap.size w w' := by
  have hsz : ss.size ≤ 200 := by rw [Lib.size_eq, hs]; exact hv
  have CI := Lib.hid (fun W h => itoa_any v.num hr.1 hr.2 W h)
  have HT := Lib.hid hT
  obtain ⟨res, hres⟩ : ∃ x : ByteArray, x = ⟨(showV v).toArray⟩ := ⟨_, rfl⟩
  rw [← hres]
  have HR := Lib.hid (show res.data.toList = if v.text then 34 :: (ss.data.toList ++ [34]) else Lib.itoa v.num by rw [hres, hs]; rfl)
  obtain ⟨tx, htx⟩ : ∃ x, x = v.text := ⟨_, rfl⟩
  obtain ⟨n, hn⟩ : ∃ x, x = v.num := ⟨_, rfl⟩
  rw [← htx, ← hn] at HR ⊢
  rw [← hn] at CI
  clear hT hres hs hv hr htx hn
  cases tx
  · have HF := Lib.hid (show (⟨(Lib.itoa n).toArray⟩ : ByteArray) = res from (bs_of HR.out).symm)
    have HB := Lib.hid ((Below.refl w.heap.size w).alloc (Nat.le_refl _) (.cells #[.string sn, .bool false, .int .i64 n, .string ss] 47))
    go_enter Tryz.func32, Tryz.ntmps32
    go_wp2_with fail
    refine Calls.mono (CI.out _ (HT.out.later HB.out)) ?_
    rintro e w1 ⟨rfl, hb⟩
    rw [HF.out]
    have HB1 := Lib.hid (HB.out.trans (hb.mono (by simp)))
    clear hb
    go_wp2_with fail
    go_ret
    exact ⟨rfl, HB1.out⟩
  · have HF := Lib.hid (show ∀ y : ByteArray, y.data.toList = 34 :: (ss.data.toList ++ [34]) → y = res from fun y hy => by rw [bs_of hy, bs_of HR.out]; rfl)
    have HB := Lib.hid ((Below.refl w.heap.size w).alloc (Nat.le_refl _) (.cells #[.string sn, .bool true, .int .i64 n, .string ss] 47))
    go_enter Tryz.func32, Tryz.ntmps32
    go_wp2_with fail
    go_ret
    exact ⟨congrArg (fun y => Ending.returned (.string y)) (HF.out _ (by simp)), HB.out⟩
theorem refValue_any (sn : ByteArray) (v : Att) (ss : ByteArray) (hs : ss.data.toList = v.str) (hv : v.str.length ≤ 200) (hr : rngV v) (w : World) (hT : LaidT w) :
    Calls Tryz.prog 24 #[.agg #[.string sn, .bool v.text, .int .i64 v.num, .string ss]] w fun e w' => e = .returned (.string ⟨(showV v).toArray⟩) ∧ Below w.heap.size w w' := by
  have hsz : ss.size ≤ 200 := by rw [Lib.size_eq, hs]; exact hv
  have CI := Lib.hid (fun W h => itoa_any v.num hr.1 hr.2 W h)
  have HT := Lib.hid hT
  obtain ⟨res, hres⟩ : ∃ x : ByteArray, x = ⟨(showV v).toArray⟩ := ⟨_, rfl⟩
  rw [← hres]
  have HR := Lib.hid (show res.data.toList = if v.text then 34 :: (ss.data.toList ++ [34]) else Lib.itoa v.num by rw [hres, hs]; rfl)
  obtain ⟨tx, htx⟩ : ∃ x, x = v.text := ⟨_, rfl⟩
  obtain ⟨n, hn⟩ : ∃ x, x = v.num := ⟨_, rfl⟩
  rw [← htx, ← hn] at HR ⊢
  rw [← hn] at CI
  clear hT hres hs hv hr htx hn
  cases tx
  · have HF := Lib.hid (show (⟨(Lib.itoa n).toArray⟩ : ByteArray) = res from (bs_of HR.out).symm)
    have HB := Lib.hid ((Below.refl w.heap.size w).alloc (Nat.le_refl _) (.cells #[.string sn, .bool false, .int .i64 n, .string ss] 47))
    go_enter Tryz.func24, Tryz.ntmps24
    go_wp2_with fail
    refine Calls.mono (CI.out _ (HT.out.later HB.out)) ?_
    rintro e w1 ⟨rfl, hb⟩
    rw [HF.out]
    have HB1 := Lib.hid (HB.out.trans (hb.mono (by simp)))
    clear hb
    go_wp2_with fail
    go_ret
    exact ⟨rfl, HB1.out⟩
  · have HF := Lib.hid (show ∀ y : ByteArray, y.data.toList = 34 :: (ss.data.toList ++ [34]) → y = res from fun y hy => by rw [bs_of hy, bs_of HR.out]; rfl)
    have HB := Lib.hid ((Below.refl w.heap.size w).alloc (Nat.le_refl _) (.cells #[.string sn, .bool true, .int .i64 n, .string ss] 47))
    go_enter Tryz.func24, Tryz.ntmps24
    go_wp2_with fail
    go_ret
    exact ⟨congrArg (fun y => Ending.returned (.string y)) (HF.out _ (by simp)), HB.out⟩

def VtR (vs : List Att) (w : World) (vl vi : Value) (wr : World) : Prop :=
  ∃ j : Nat, j ≤ vs.length ∧ vi = .int .i64 j ∧ wr.ownsRow w.heap.size 9 1 vl j (((vs.take j).map showV).map bs) ∧ Below w.heap.size w wr
theorem take_map {α : Type} {vs : List α} {j : Nat} {v : α} (f : α → List UInt8) (h : vs[j]? = some v) : ((vs.take (j + 1)).map f).map bs = ((vs.take j).map f).map bs ++ [bs (f v)] := by
  rw [List.take_add_one, h]
  simp
set_option maxHeartbeats 4000000 in
set_option maxRecDepth 100000 in
theorem valuesText_any (u : Att) (vs : List Att) (a : Option Addr) (c : Nat) (w : World) (hT : LaidT w) (hA : AttsAt w (Old w.heap.size) a (u :: vs)) (hv : ∀ v ∈ u :: vs, valB v = true) (h20 : (u :: vs).length ≤ 20) :
    Calls Tryz.prog 33 #[.slice a (u :: vs).length c] w fun e w' => e = .returned (.string ⟨(showV u ++ showVs vs).toArray⟩) ∧ Below w.heap.size w w' := by
  have HT := Lib.hid hT
  have HA := Lib.hid hA
  have HVB := Lib.hid (show ∀ v ∈ u :: vs, v.str.length ≤ 200 ∧ rngV v from fun v h => by
    refine ⟨?_, (hA.2.1 v h).2.2⟩
    have := hv v h
    unfold valB at this
    simp only [Bool.and_eq_true] at this
    cases ht : v.text
    · rw [ht] at this
      simp at this
      rw [this.2]
      simp
    · rw [ht] at this
      simp only [if_true, Bool.and_eq_true] at this
      have h9 := this.2.2
      rw [plainB_eq, Bool.and_eq_true, decide_eq_true_eq] at h9
      exact h9.2)
  obtain ⟨res, hres⟩ : ∃ x : ByteArray, x = ⟨(showV u ++ showVs vs).toArray⟩ := ⟨_, rfl⟩
  rw [← hres]
  obtain ⟨l, hl⟩ : ∃ l, l = u :: vs := ⟨_, rfl⟩
  have HJ := Lib.hid (show Lib.join (l.map showV) [44, 32] = showV u ++ showVs vs by rw [hl]; exact join_vs u vs)
  have HJL := Lib.hid (show (showV u ++ showVs vs).length ≤ 140737488355328 by
    have h1 := showV_len (hv u (List.mem_cons_self ..)) (HVB.out u (List.mem_cons_self ..)).2
    have h2 := showVs_len (vs := vs) fun q hq => ⟨hv q (List.mem_cons_of_mem _ hq), (HVB.out q (List.mem_cons_of_mem _ hq)).2⟩
    simp only [List.length_cons] at h20
    rw [List.length_append]
    omega)
  have HRES := Lib.hid hres
  rw [← hl] at HA HVB h20 ⊢
  have HL0 := Lib.hid (show 0 < l.length by rw [hl]; simp)
  obtain ⟨n, hn⟩ : ∃ n, n = l.length := ⟨_, rfl⟩
  have HN := Lib.hid hn
  rw [← hn] at h20 ⊢
  obtain ⟨i0, hi, hz0, hz1, hz2⟩ := info_cut' infoStr
  clear hT hA hv hres hl hn
  go_enter Tryz.func33, Tryz.ntmps33
  go_wp2_with fail
  go_loopw [3, 8] (fun vl vi wr => VtR l w vl vi wr) (fun _ vi _ => n - (intOf vi).toNat)
  case atStart => exact ⟨0, Nat.zero_le _, rfl, World.ownsRow_nil _ _ _ _, Below.refl _ _⟩
  case round =>
    obtain ⟨j, hk, rfl, hO, hB⟩ := hrel
    have HK := Lib.hid hk
    have HO := Lib.hid hO
    have HB := Lib.hid hB
    clear hk hO hB
    by_cases hlt : j < n
    · have hlz : (j : Int) < (n : Int) := by omega
      have hku : j < l.length := by rw [← HN.out]; exact hlt
      obtain ⟨g, o', hg, hgl, hc⟩ := (HA.out.later HB.out).2.2 (by omega)
      obtain ⟨e0, e1, e2, e3⟩ := hc j hku
      obtain ⟨U, hU⟩ : ∃ V, V = l[j] := ⟨_, rfl⟩
      rw [← hU] at e0 e1 e2 e3
      have HUK := Lib.hid (show l[j]? = some U by rw [hU]; exact List.getElem?_eq_getElem hku)
      obtain ⟨s1, q1, f1⟩ := bs_bytes U.name
      obtain ⟨t1, q2, f2⟩ := bs_bytes U.str
      rw [q1] at e0
      rw [q2] at e3
      have HU := Lib.hid (HVB.out U (List.mem_of_getElem? HUK.out))
      have CV := Lib.hid (fun W h => valueText_any s1 U t1 f2 HU.out.1 HU.out.2 W h)
      obtain ⟨x1, hx1⟩ : ∃ x, x = U.text := ⟨_, rfl⟩
      obtain ⟨y1, hy1⟩ : ∃ x, x = U.num := ⟨_, rfl⟩
      rw [← hx1] at e1 CV
      rw [← hy1] at e2 CV
      obtain ⟨st, hst⟩ : ∃ x : ByteArray, x = ⟨(showV U).toArray⟩ := ⟨_, rfl⟩
      rw [← hst] at CV
      obtain ⟨rs, hrs⟩ : ∃ x, x = ((l.take j).map showV).map bs := ⟨_, rfl⟩
      have HTK := Lib.hid (show ((l.take (j + 1)).map showV).map bs = rs ++ [.string st] by rw [take_map showV HUK.out, hst, hrs]; rfl)
      rw [← hrs] at HO
      subst hg
      clear hc hU q1 q2 f1 f2 hx1 hy1 hst hgl hrs
      have HBA := Lib.hid (show Below w.heap.size w (wr.alloc (.cells #[.string s1, .bool x1, .int .i64 y1, .string t1] 47)) from HB.out.alloc HB.out.size _)
      have HOA := Lib.hid (show (wr.alloc (.cells #[.string s1, .bool x1, .int .i64 y1, .string t1] 47)).ownsRow w.heap.size 9 1 _ j rs from own_later HO.out ((Below.refl _ _).alloc (Nat.le_refl _) _))
      go_wp2_with fail
      refine Calls.mono (CV.out _ (HT.out.later HBA.out)) ?_
      rintro e w3 ⟨rfl, hb⟩
      have HB3 := Lib.hid (HBA.out.trans (hb.mono HBA.out.size))
      have HO3 := Lib.hid (own_later HOA.out hb)
      have HB4 := Lib.hid (show Below w.heap.size w (w3.alloc (.cells #[.string st] 9)) from HB3.out.alloc HB3.out.size _)
      have HO4 := Lib.hid (show (w3.alloc (.cells #[.string st] 9)).ownsRow w.heap.size 9 1 _ j rs from own_later HO3.out ((Below.refl _ _).alloc (Nat.le_refl _) _))
      have NW := Lib.hid (cell_one_new w3 (.string st) 9)
      clear hb
      go_wp2_with (first | (at_builtin; refine wpList_append_own_at _ rfl _ _ 80 rfl w.heap.size 9 i0 (.string ⟨#[]⟩) 1 16 Tryz.underlying80 hi hz0 hz1 hz2 rfl (by decide) _ _ _ rfl HO4.out ⟨w3.heap.size, 0, none⟩ 1 1 [.string st] rfl rfl NW.out (by intro u hu; simp at hu; subst hu; rfl) (by unfold maxLen; omega) (by omega) HB4.out.size ?_))
      intro v1 w5 hown hgrow _ _
      have HB5 := Lib.hid (own_below HB4.out HO4.out hgrow)
      have HO5 := Lib.hid (show w5.ownsRow w.heap.size 9 1 v1 (j + 1) (((l.take (j + 1)).map showV).map bs) by rw [HTK.out]; exact hown)
      clear hgrow hown
      go_wp2
      go_roundw
      case rel => first | exact ⟨j + 1, by have := HN.out; omega, by go_num, HO5.out, HB5.out⟩ | ((repeat apply Exists.intro); exact ⟨⟨j + 1, by have := HN.out; omega, by go_num, HO5.out, HB5.out⟩, rfl⟩)
      case measure => simp [intOf]; omega
    · have hlz : ¬ (j : Int) < (n : Int) := by omega
      have HO2 := HO.out
      rw [show j = l.length by have := HN.out; have := HK.out; omega, List.take_length] at HO2
      have CJ := Lib.hid (join_any (l.map showV) ⟨#[44, 32]⟩ _ _ _ wr HO2 HL0.out (by have := HN.out; omega) (by rw [show (⟨#[44, 32]⟩ : ByteArray).data.toList = [44, 32] from rfl, HJ.out]; exact HJL.out))
      rw [show (⟨#[44, 32]⟩ : ByteArray).data.toList = [44, 32] from rfl, HJ.out, ← HRES.out] at CJ
      clear HO2
      go_wp2_with fail
      refine Calls.mono CJ.out ?_
      rintro e w3 ⟨rfl, hb⟩
      have HB3 := Lib.hid (HB.out.trans (hb.mono HB.out.size))
      clear hb
      go_wp2_with fail
      go_ret
      exact ⟨rfl, HB3.out⟩
end Go.Proofs.YtjffnjiggcfhcaaGreatDoor.Fl
/-
  Filters that a call has made, and may write on: a row of parts of its own, and what the parts hold elsewhere. No function of the program here.
-/
namespace Go.Proofs.YtjffnjiggcfhcaaGreatDoor.Fl
open Go.RowKit Go.Proofs.YtjffnjiggcfhcaaGreatDoor.Tk
set_option linter.unusedVariables false
set_option linter.unusedSimpArgs false

/-- Blocks of the call's own, from z on, but for q and a row's own. -/
def Mine (W : World) (z : Nat) (q : Nat → Prop) (v : Value) (g : Nat) : Prop := z ≤ g ∧ g < W.heap.size ∧ ¬ q g ∧ v.ownBlock ≠ some g
/-- A row of filters of the call's own. -/
def OwnX (W : World) (z : Nat) (q : Nat → Prop) (v : Value) (ps : List Flt) (xs : List Value) : Prop :=
  W.ownsRow z 25 5 v ps.length xs ∧ (∀ g, v.ownBlock = some g → ¬ q g) ∧ (∀ u ∈ xs, u.oneCell' = true) ∧
    ∀ (k : Nat) (h : k < ps.length), ∃ a c b d, (∀ i, i < 5 → xs[k * 5 + i]? = (fltC ps[k] a c b d)[i]?) ∧ FltAt W (Mine W z q v) ps[k] a b
def OwnL (W : World) (z : Nat) (q : Nat → Prop) (v : Value) (ps : List Flt) : Prop := ∃ xs, OwnX W z q v ps xs
/-- A filter of the call's own. -/
def OwnF (W : World) (z : Nat) (q : Nat → Prop) (f : Flt) (a : Option Addr) (c : Nat) (b : Option Addr) (d : Nat) : Prop :=
  (f.name.length ≤ maxLen ∧ f.op.length ≤ maxLen ∧ -9223372036854775808 ≤ f.kind ∧ f.kind ≤ 9223372036854775807 ∧ f.parts.length ≤ maxLen) ∧
  AttsAt W (Mine W z q (.slice b f.parts.length d)) a f.vals ∧ OwnL W z q (.slice b f.parts.length d) f.parts
theorem own_lt'' {W : World} {base n k : Nat} {t : TypeId} {v : Value} {xs : List Value} (h : W.ownsRow base t k v n xs) {g : Nat} (hg : v.ownBlock = some g) : base ≤ g ∧ g < W.heap.size := ⟨(own_lt' h hg).2, (own_lt' h hg).1⟩
theorem own_keep {W V : World} {base n k : Nat} {t : TypeId} {v : Value} {xs : List Value} (h : W.ownsRow base t k v n xs) (hk : ∀ g, v.ownBlock = some g → V.heap[g]? = W.heap[g]?) : V.ownsRow base t k v n xs := by
  obtain ⟨h1, h2⟩ := h
  refine ⟨h1, ?_⟩
  rcases h2 with h2 | ⟨g, cap, cur, e, hb, hh, r⟩
  · exact Or.inl h2
  · refine Or.inr ⟨g, cap, cur, e, hb, ?_, r⟩
    rw [hk g (by rw [e]; rfl)]
    exact hh
theorem Mine.keep {W V : World} {z : Nat} {q : Nat → Prop} {v : Value} (hs : W.heap.size ≤ V.heap.size) (hk : ∀ g, z ≤ g → g < W.heap.size → ¬ q g → V.heap[g]? = W.heap[g]?) : ∀ g, Mine W z q v g → Mine V z q v g ∧ V.heap[g]? = W.heap[g]? :=
  fun g ⟨h1, h2, h3, h4⟩ => ⟨⟨h1, Nat.lt_of_lt_of_le h2 hs, h3, h4⟩, hk g h1 h2 h3⟩
theorem OwnL.keep {W V : World} {z : Nat} {q : Nat → Prop} {v : Value} {ps : List Flt} (h : OwnL W z q v ps) (hs : W.heap.size ≤ V.heap.size) (hk : ∀ g, z ≤ g → g < W.heap.size → ¬ q g → V.heap[g]? = W.heap[g]?) : OwnL V z q v ps := by
  obtain ⟨xs, ho, hq, h1, hc⟩ := h
  refine ⟨xs, own_keep ho fun g hg => ?_, hq, h1, fun k hk' => ?_⟩
  · have := own_lt'' ho hg
    exact hk g this.1 this.2 (hq g hg)
  · obtain ⟨a, c, b, d, hx, hf⟩ := hc k hk'
    exact ⟨a, c, b, d, hx, hf.far (Mine.keep hs hk)⟩
theorem OwnF.keep {W V : World} {z : Nat} {q : Nat → Prop} {f : Flt} {a : Option Addr} {c : Nat} {b : Option Addr} {d : Nat} (h : OwnF W z q f a c b d) (hs : W.heap.size ≤ V.heap.size) (hk : ∀ g, z ≤ g → g < W.heap.size → ¬ q g → V.heap[g]? = W.heap[g]?) : OwnF V z q f a c b d :=
  ⟨h.1, h.2.1.far (Mine.keep hs hk), h.2.2.keep hs hk⟩
theorem OwnF.later {W V : World} {z : Nat} {q : Nat → Prop} {f : Flt} {a : Option Addr} {c : Nat} {b : Option Addr} {d : Nat} (h : OwnF W z q f a c b d) (hb : Below W.heap.size W V) : OwnF V z q f a c b d := h.keep hb.size fun g _ hg _ => hb.block g hg
theorem OwnL.later {W V : World} {z : Nat} {q : Nat → Prop} {v : Value} {ps : List Flt} (h : OwnL W z q v ps) (hb : Below W.heap.size W V) : OwnL V z q v ps := h.keep hb.size fun g _ hg _ => hb.block g hg
theorem OwnF.gr {W V : World} {z p : Nat} {q : Nat → Prop} {f : Flt} {a : Option Addr} {c : Nat} {b : Option Addr} {d : Nat} (h : OwnF W z q f a c b d) (hg : W.grownBy V (some p)) (hp : p < z) : OwnF V z q f a c b d :=
  h.keep hg.size fun g h1 h2 _ => hg.block g h2 (by intro e; cases e; omega)
/-- Less is asked of the blocks. -/
theorem OwnL.weaken {W : World} {z z' : Nat} {q q' : Nat → Prop} {v : Value} {ps : List Flt} (h : OwnL W z q v ps) (hz : z' ≤ z) (hq : ∀ g, z ≤ g → g < W.heap.size → ¬ q g → ¬ q' g) : OwnL W z' q' v ps := by
  obtain ⟨xs, ho, hqo, h1, hc⟩ := h
  refine ⟨xs, ?_, ?_, h1, fun k hk' => ?_⟩
  · obtain ⟨h1, h2⟩ := ho
    refine ⟨h1, ?_⟩
    rcases h2 with h2 | ⟨g, cap, cur, e, hb, r⟩
    · exact Or.inl h2
    · exact Or.inr ⟨g, cap, cur, e, by omega, r⟩
  · intro g e
    have := own_lt'' ho e
    exact hq g this.1 this.2 (hqo g e)
  · obtain ⟨a, c, b, d, hx, hf⟩ := hc k hk'
    exact ⟨a, c, b, d, hx, hf.far fun g ⟨g1, g2, g3, g4⟩ => ⟨⟨by omega, g2, hq g g1 g2 g3, g4⟩, rfl⟩⟩
theorem OwnF.weaken {W : World} {z z' : Nat} {q q' : Nat → Prop} {f : Flt} {a : Option Addr} {c : Nat} {b : Option Addr} {d : Nat} (h : OwnF W z q f a c b d) (hz : z' ≤ z) (hq : ∀ g, z ≤ g → g < W.heap.size → ¬ q g → ¬ q' g) : OwnF W z' q' f a c b d :=
  ⟨h.1, h.2.1.far fun g ⟨g1, g2, g3, g4⟩ => ⟨⟨by omega, g2, hq g g1 g2 g3, g4⟩, rfl⟩, h.2.2.weaken hz hq⟩
theorem cell_of_own {W : World} {z n k : Nat} {t : TypeId} {b : Option Addr} {d : Nat} {xs : List Value} (h : W.ownsRow z t k (.slice b n d) n xs) (h0 : 0 < n) : ∃ g, b = some ⟨g, 0, none⟩ ∧ z ≤ g ∧ g < W.heap.size ∧ n ≤ d ∧ ∀ j u, xs[j]? = some u → W.cell? ⟨g, j, none⟩ = some u := by
  rcases h.2 with ⟨e, h2⟩ | ⟨g, cap, cur, e, hb, hh, hn, _⟩
  · omega
  · injection e with e1 e2 e3
    subst e1
    refine ⟨g, rfl, hb, (Array.getElem?_eq_some_iff.1 hh).1, by omega, fun j u hu => ?_⟩
    have := h.cells (g := g) rfl j u hu
    rwa [show ((⟨g, 0, none⟩ : Addr).add j) = ⟨g, j, none⟩ by unfold Addr.add; split <;> simp_all] at this
/-- To be read: it is a tree in blocks of the call's own. -/
theorem OwnF.flt {W : World} {z : Nat} {q : Nat → Prop} {f : Flt} {a : Option Addr} {c : Nat} {b : Option Addr} {d : Nat} (h : OwnF W z q f a c b d) : FltAt W (fun g => z ≤ g ∧ g < W.heap.size ∧ ¬ q g) f a b := by
  obtain ⟨hs, ha, xs, ho, hq, h1, hc⟩ := h
  refine FltAt.mk' hs (ha.far fun g ⟨g1, g2, g3, _⟩ => ⟨⟨g1, g2, g3⟩, rfl⟩) (PartsAt.mk' fun k hk => ?_)
  obtain ⟨g, rfl, hzg, hg, hn, hcl⟩ := cell_of_own ho (by omega)
  obtain ⟨a', c', b', d', hx, hf⟩ := hc k hk
  refine ⟨g, 0, a', c', b', d', rfl, ⟨hzg, hg, hq g rfl⟩, ?_, hf.far fun g ⟨g1, g2, g3, _⟩ => ⟨⟨g1, g2, g3⟩, rfl⟩⟩
  rw [Nat.zero_add, Nat.zero_add]
  have hw := fun i (hi : i < 5) => hx i hi
  exact ⟨hcl _ _ (by rw [show k * 5 = k * 5 + 0 from rfl, hw 0 (by omega)]; rfl), hcl _ _ (by rw [hw 1 (by omega)]; rfl), hcl _ _ (by rw [hw 2 (by omega)]; rfl), hcl _ _ (by rw [hw 3 (by omega)]; rfl), hcl _ _ (by rw [hw 4 (by omega)]; rfl)⟩
theorem OwnL.nil (W : World) (z : Nat) (q : Nat → Prop) : OwnL W z q (.slice none 0 0) [] := ⟨[], World.ownsRow_nil _ _ _ _, fun g h => by simp [Value.ownBlock] at h, fun u h => by simp at h, fun k h => by simp at h⟩
theorem fltC_one (f : Flt) (a : Option Addr) (c : Nat) (b : Option Addr) (d : Nat) : ∀ u ∈ fltC f a c b d, u.oneCell' = true := by
  intro u hu
  simp [fltC, bs] at hu
  rcases hu with rfl | rfl | rfl | rfl | rfl <;> rfl
/-- A row of one filter is made. -/
theorem own_one {W : World} {z : Nat} {q : Nat → Prop} {f : Flt} {a : Option Addr} {c : Nat} {b : Option Addr} {d : Nat} (h : FltAt W (fun g => z ≤ g ∧ g < W.heap.size ∧ ¬ q g) f a b) (hz : z ≤ W.heap.size) (hq : ¬ q W.heap.size) :
    OwnL (W.alloc (.cells (fltC f a c b d).toArray 25)) z q (.slice (some ⟨W.heap.size, 0, none⟩) 1 1) [f] := by
  refine ⟨fltC f a c b d, ⟨rfl, Or.inr ⟨W.heap.size, 1, (fltC f a c b d).toArray, rfl, hz, heap_alloc_new W _, Nat.le_refl _, by unfold maxLen; omega, rfl, rfl⟩⟩, ?_, fltC_one f a c b d, fun k hk => ?_⟩
  · intro g e
    simp [Value.ownBlock] at e
    rw [← e]
    exact hq
  · have hk0 : k = 0 := by simp at hk; omega
    subst hk0
    refine ⟨a, c, b, d, fun i hi => by simp, ?_⟩
    simp only [List.getElem_cons_zero]
    exact h.far fun g ⟨g1, g2, g3⟩ => ⟨⟨g1, by simp; omega, g3, by intro e; simp [Value.ownBlock] at e; omega⟩, Below.heap_alloc _ _ _ g2⟩
/-- One row behind another. -/
theorem OwnX.app {W V : World} {z z2 : Nat} {q q2 : Nat → Prop} {v u v' : Value} {ps qs : List Flt} {xs ys : List Value} (h1 : OwnX W z q v ps xs) (h2 : OwnX W z2 q2 u qs ys) (hz : z ≤ z2) (hq : ∀ g, q g → q2 g) (hv : ∀ g, v.ownBlock = some g → q2 g) (hs : ¬ q W.heap.size)
    (ho : V.ownsRow z 25 5 v' (ps.length + qs.length) (xs ++ ys)) (hg : W.grownBy V v.ownBlock) (hat : v'.ownBlock = v.ownBlock ∨ v'.ownBlock = some W.heap.size) : OwnL V z q v' (ps ++ qs) := by
  obtain ⟨o1, n1, c1, p1⟩ := h1
  obtain ⟨o2, n2, c2, p2⟩ := h2
  have hown : ∀ g, g < W.heap.size → v.ownBlock ≠ some g → v'.ownBlock ≠ some g := by
    intro g hgl hne
    rcases hat with e | e
    · rw [e]; exact hne
    · rw [e]; intro e2; cases e2; omega
  have hl1 : xs.length = ps.length * 5 := o1.1
  refine ⟨xs ++ ys, by rw [List.length_append]; exact ho, fun g e => ?_, fun x hx => ?_, fun k hk => ?_⟩
  · rcases hat with e2 | e2
    · exact n1 g (by rw [← e2]; exact e)
    · rw [e2] at e
      cases e
      exact hs
  · rcases List.mem_append.1 hx with h | h
    · exact c1 x h
    · exact c2 x h
  · by_cases hkp : k < ps.length
    · obtain ⟨a, c, b, d, hx, hf⟩ := p1 k hkp
      refine ⟨a, c, b, d, fun i hi => ?_, ?_⟩
      · rw [List.getElem?_append_left (by omega), hx i hi]
        simp [List.getElem_append_left hkp]
      · rw [List.getElem_append_left hkp]
        exact hf.far fun g ⟨g1, g2, g3, g4⟩ => ⟨⟨g1, Nat.lt_of_lt_of_le g2 hg.size, g3, hown g g2 g4⟩, hg.block g g2 (fun e => g4 e.symm)⟩
    · rw [List.length_append] at hk
      obtain ⟨a, c, b, d, hx, hf⟩ := p2 (k - ps.length) (by omega)
      have e1 : (ps ++ qs)[k]'(by rw [List.length_append]; exact hk) = qs[k - ps.length]'(by omega) := List.getElem_append_right (by omega)
      refine ⟨a, c, b, d, fun i hi => ?_, ?_⟩
      · rw [List.getElem?_append_right (by omega), e1, ← hx i hi]
        congr 1
        omega
      · rw [e1]
        have hne : ∀ g, ¬ q2 g → v.ownBlock ≠ some g := fun g h e => h (hv g e)
        exact hf.far fun g ⟨g1, g2, g3, g4⟩ => ⟨⟨by omega, Nat.lt_of_lt_of_le g2 hg.size, fun h => g3 (hq g h), hown g g2 (hne g g3)⟩, hg.block g g2 (fun e => hne g g3 e.symm)⟩
/-- What a filter gives to one of kind k that it is a part of. -/
def partsOf (k : Int) (f : Flt) : List Flt := if f.kind = k then f.parts else [f]
end Go.Proofs.YtjffnjiggcfhcaaGreatDoor.Fl
/-
  Contract of values of package filter's reader. Memory that was there is left as it was, but for what the reader has left.
-/
namespace Go.Proofs.YtjffnjiggcfhcaaGreatDoor.Fl
open Go.RowKit Go.Proofs.YtjffnjiggcfhcaaGreatDoor.Tk
set_option linter.unusedVariables false
set_option linter.unusedSimpArgs false

/-- The values behind the first one, to the ), of whatever sorts. -/
def vsP : Nat → List Tc → Option (List Att × List Tc)
  | 0, _ => none
  | n + 1, ts =>
    match takes sComma ts with
    | some r =>
      match valP r with
      | none => none
      | some (v, r2) =>
        match vsP n r2 with
        | none => none
        | some (vs, r3) => some (v :: vs, r3)
    | none =>
      match takes sShut ts with
      | none => none
      | some r => some ([], r)
theorem vals_sort (tx : Bool) : ∀ (n : Nat) (ts : List Tc), valsP tx n ts = match vsP n ts with | none => none | some (vs, r) => if (vs.all fun u => u.text == tx) = true then some (vs, r) else none
  | 0, _ => rfl
  | n + 1, ts => by
    rw [valsP, vsP]
    cases h1 : takes sComma ts with
    | none =>
      simp only
      cases h2 : takes sShut ts with
      | none => rfl
      | some r => simp
    | some r =>
      simp only
      cases h2 : valP r with
      | none => rfl
      | some x =>
        obtain ⟨v, r2⟩ := x
        simp only
        rw [vals_sort tx n r2]
        cases h3 : vsP n r2 with
        | none => simp
        | some y =>
          obtain ⟨vs, r3⟩ := y
          simp only
          by_cases hv : v.text = tx
          · rw [if_pos hv]
            by_cases ha : (vs.all fun u => u.text == tx) = true
            · rw [if_pos ha, if_pos (show ((v :: vs).all fun u => u.text == tx) = true by rw [List.all_cons, ha, hv]; simp)]
            · rw [if_neg ha, if_neg (show ¬ ((v :: vs).all fun u => u.text == tx) = true by rw [List.all_cons, Bool.and_eq_true]; exact fun h => ha h.2)]
          · rw [if_neg hv, if_neg (show ¬ ((v :: vs).all fun u => u.text == tx) = true by rw [List.all_cons, Bool.and_eq_true, beq_iff_eq]; exact fun h => hv h.1)]
theorem takes_len {s : List UInt8} {ts r : List Tc} (h : takes s ts = some r) : r.length < ts.length := by
  have := (takes_left h).2; omega
theorem val_len {v : Att} {ts r : List Tc} (h : valP ts = some (v, r)) : r.length < ts.length := by
  have := (val_left h).2; omega
theorem vs_fuel : ∀ (n m : Nat) (ts : List Tc), ts.length < n → ts.length < m → vsP n ts = vsP m ts
  | 0, _, _, h, _ => by omega
  | _, 0, _, _, h => by omega
  | n + 1, m + 1, ts, hn, hm => by
    rw [vsP, vsP]
    cases h1 : takes sComma ts with
    | none => rfl
    | some r =>
      simp only
      have l1 := takes_len h1
      cases h2 : valP r with
      | none => rfl
      | some x =>
        obtain ⟨v, r2⟩ := x
        have l2 := val_len h2
        simp only
        rw [vs_fuel n m r2 (by omega) (by omega)]
/-- So far vs was read; a value follows. -/
def goV (vs : List Att) (ts : List Tc) : Option (List Att × List Tc) :=
  match valP ts with
  | none => none
  | some (v, r) =>
    match vsP (r.length + 1) r with
    | none => none
    | some (us, r3) => some (vs ++ v :: us, r3)
def valuesT (ts : List Tc) : Option (List Att × List Tc) := match takes sOpen ts with | none => none | some r => goV [] r
theorem go_bad {vs : List Att} {ts : List Tc} (h : valP ts = none) : goV vs ts = none := by rw [goV, h]
theorem go_comma {vs : List Att} {ts r r2 : List Tc} {v : Att} (h : valP ts = some (v, r)) (hc : takes sComma r = some r2) : goV vs ts = goV (vs ++ [v]) r2 := by
  have l1 := takes_len hc
  rw [goV, h, goV]
  simp only
  rw [vsP, hc]
  simp only
  cases h2 : valP r2 with
  | none => rfl
  | some x =>
    obtain ⟨u, r3⟩ := x
    have l2 := val_len h2
    simp only
    rw [vs_fuel r.length (r3.length + 1) r3 (by omega) (by omega)]
    cases h3 : vsP (r3.length + 1) r3 with
    | none => rfl
    | some y => simp
theorem go_shut {vs : List Att} {ts r : List Tc} {v : Att} (h : valP ts = some (v, r)) (hc : takes sComma r = none) : goV vs ts = match takes sShut r with | none => none | some r2 => some (vs ++ [v], r2) := by
  rw [goV, h]
  simp only
  rw [vsP, hc]
  simp only
  cases h2 : takes sShut r <;> rfl
def attsC (vs : List Att) : List Value := vs.flatMap attC
theorem attsC_app (vs : List Att) (v : Att) : attsC (vs ++ [v]) = attsC vs ++ attC v := by simp [attsC]
theorem attsC_get : ∀ (vs : List Att) (k : Nat) (h : k < vs.length) (j : Nat), j < 4 → (attsC vs)[k * 4 + j]? = (attC vs[k])[j]?
  | [], _, h, _, _ => by simp at h
  | t :: ts, 0, _, j, hj => by
    have e : attsC (t :: ts) = attC t ++ attsC ts := rfl
    rw [e, Nat.zero_mul, Nat.zero_add, List.getElem?_append_left (by simpa [attC] using hj)]
    rfl
  | t :: ts, k + 1, h, j, hj => by
    have := attsC_get ts k (by simpa using h) j hj
    have e : attsC (t :: ts) = attC t ++ attsC ts := rfl
    rw [e, List.getElem?_append_right (by simp [attC]; omega), show (k + 1) * 4 + j - (attC t).length = k * 4 + j by simp [attC]; omega, this]
    rfl
theorem own_atts {W : World} {z : Nat} {a : Option Addr} {c : Nat} {vs : List Att} (h : W.ownsRow z 47 4 (.slice a vs.length c) vs.length (attsC vs)) (hk : ∀ v ∈ vs, attOk v) (hl : vs.length ≤ maxLen) : AttsAt W (fun g => z ≤ g ∧ g < W.heap.size) a vs := by
  refine ⟨hl, hk, fun h0 => ?_⟩
  obtain ⟨g, rfl, hz, hg, _, hc⟩ := cell_of_own h h0
  refine ⟨g, 0, rfl, ⟨hz, hg⟩, fun k hk => ?_⟩
  have d := fun (j : Nat) (hj : j < 4) => attsC_get vs k hk j hj
  simp only [Nat.zero_add]
  exact ⟨hc _ _ (by have := d 0 (by omega); simpa [attC] using this), hc _ _ (by have := d 1 (by omega); simpa [attC] using this), hc _ _ (by have := d 2 (by omega); simpa [attC] using this), hc _ _ (by have := d 3 (by omega); simpa [attC] using this)⟩
theorem infoAtt : (Tryz.prog.info? 47).map (fun i => (i.zero, i.size, i.bytes)) = some (some (.agg #[.string ⟨#[]⟩, .bool false, .int .i64 0, .string ⟨#[]⟩]), 4, 48) := by kernel_rfl
theorem attC_one (v : Att) : ∀ u ∈ attC v, u.oneCell' = true := by
  intro u hu
  simp [attC, bs] at hu
  rcases hu with rfl | rfl | rfl | rfl <;> rfl
theorem val_ok {ts : List Tok} {v : Att} {r : List Tc} (hg : ∀ t ∈ ts, TG t) (h : valP (ts.map core) = some (v, r)) : attOk v := by
  match ts, h with
  | t :: l, h =>
    have ht := hg t (List.mem_cons_self ..)
    obtain ⟨_, _, _, _, h5, h6, h7⟩ := ht
    have e : valP ((t :: l).map core) = if t.kind = 4 then some (⟨[], true, 0, t.str⟩, l.map core) else if t.kind = 3 then some (⟨[], false, t.num, []⟩, l.map core) else none := rfl
    rw [e] at h
    split at h
    · cases h
      exact ⟨by simp, by simp only; unfold maxLen; omega, by unfold rngV; simp⟩
    · split at h
      · cases h
        exact ⟨by simp, by simp, h5, h6⟩
      · cases h
theorem own_form {W : World} {z n k : Nat} {t : TypeId} {v : Value} {xs : List Value} (h : W.ownsRow z t k v n xs) (h0 : 0 < n) : ∃ g cap, v = .slice (some ⟨g, 0, none⟩) n cap := by
  rcases h.2 with ⟨_, h2⟩ | ⟨g, cap, cur, e, _⟩
  · omega
  · exact ⟨g, cap, e⟩
/-- How many tokens a reader has left. -/
def lenAt (W : World) (p : Nat) : Nat := match W.cell? ⟨p, 0, none⟩ with
  | some (.slice _ n _) => n
  | _ => 0
theorem RdAt.len {W : World} {p z : Nat} {ts : List Tok} (h : RdAt W p z ts) : lenAt W p = ts.length := by
  obtain ⟨a, cap, hc, _⟩ := h
  rw [lenAt, hc]
/-- What values tells. -/
def ValsEnd (ts : List Tok) (p z : Nat) (w w' : World) (e : Ending) : Prop :=
  w.grownBy w' (some p) ∧ ((valuesT (ts.map core) = none ∧ ∃ a n c, e = .returned (.tuple #[.slice a n c, .bool false])) ∨
    (∃ vs r a c, valuesT (ts.map core) = some (vs, r.map core) ∧ e = .returned (.tuple #[.slice a vs.length c, .bool true]) ∧ RdAt w' p z r ∧ (∀ t ∈ r, t ∈ ts) ∧ r.length ≤ ts.length ∧ w'.ownsRow w.heap.size 47 4 (.slice a vs.length c) vs.length (attsC vs) ∧ (∀ v ∈ vs, attOk v) ∧ vs.length ≤ 700))
def VlR (ts0 : List Tok) (p z : Nat) (w : World) (vl : Value) (wr : World) : Prop :=
  ∃ (vs : List Att) (ts : List Tok), Hid (valuesT (ts0.map core) = goV vs (ts.map core)) ∧ RdAt wr p z ts ∧ w.grownBy wr (some p) ∧ (∀ t ∈ ts, t ∈ ts0) ∧ ts.length + vs.length ≤ 600 ∧ ts.length ≤ ts0.length ∧ wr.ownsRow w.heap.size 47 4 vl vs.length (attsC vs) ∧ (∀ v ∈ vs, attOk v)
theorem mem_tail {ts0 : List Tok} {t : Tok} {r : List Tok} (h : ∀ x ∈ t :: r, x ∈ ts0) : ∀ x ∈ r, x ∈ ts0 := fun x hx => h x (List.mem_cons_of_mem _ hx)
theorem gr_own {w W V : World} {p : Nat} {v : Value} (h : w.grownBy W (some p)) (hg : W.grownBy V v.ownBlock) (ho : ∀ g, v.ownBlock = some g → w.heap.size ≤ g) : w.grownBy V (some p) :=
  ⟨hg.os.trans h.os, hg.tape.trans h.tape, hg.output.trans h.output, Nat.le_trans h.size hg.size, fun k hk hne => (hg.block k (Nat.lt_of_lt_of_le hk h.size) (fun e => by have := ho k e.symm; omega)).trans (h.block k hk hne)⟩
set_option maxHeartbeats 4000000 in
set_option maxRecDepth 100000 in
theorem values_any (ts : List Tok) (hg : ∀ t ∈ ts, TG t) (hl : ts.length ≤ 600) (p z : Nat) (hz : z ≤ p) (w : World) (hR : RdAt w p z ts) :
    Calls Tryz.prog 106 #[.pointer (some ⟨p, 0, none⟩)] w fun e w' => ValsEnd ts p z w w' e := by
  have hp : p < w.heap.size := hR.lt
  have CO := Lib.hid (take_any ⟨#[40]⟩ 5 (fun t h => sign_kd (s := [40]) (by decide) (by decide) t h) ts hg hl p z hz w hR)
  have HG := Lib.hid hg
  have HLT := Lib.hid hl
  obtain ⟨i0, hi, hz0, hz1, hz2⟩ := info_cut' infoAtt
  clear hR hg hl
  go_enter Tryz.func106, Tryz.ntmps106
  go_wp2_with fail
  refine Calls.mono CO.out ?_
  rintro e w1 (⟨hn, rfl, rfl⟩ | ⟨t, r, hts, hy, rfl, hg1, hr1⟩)
  · have HN := Lib.hid (show valuesT (ts.map core) = none by rw [valuesT, show takes sOpen (ts.map core) = none from hn])
    clear hn
    go_wp2_with fail
    refine bodyPost_ret (v := .tuple #[.slice none 0 0, .bool false]) (by simp [results, Tryz.results106, go_sem, *]) rfl ?_
    exact ⟨gr_refl _ _, Or.inl ⟨HN.out, _, _, _, rfl⟩⟩
  · have HST := Lib.hid (show VlR ts p z w (.slice none 0 0) w1 from ⟨[], r, Lib.hid (by rw [valuesT, show takes sOpen (ts.map core) = some (r.map core) from hy]), hr1, hg1, by rw [hts]; exact fun x hx => List.mem_cons_of_mem _ hx, by have := HLT.out; rw [hts] at this; simp at this ⊢; omega, by rw [hts]; simp, World.ownsRow_nil _ _ _ _, fun v h => by simp at h⟩)
    clear hts hy hg1 hr1
    go_wp2_with fail
    go_loopw [4] (fun vl wr => VlR ts p z w vl wr) (fun _ wr => lenAt wr p)
    case atStart => exact HST.out
    case round =>
      obtain ⟨vs, us, hgo, hr, hgr, hmem, hlen, hle, hown, hok⟩ := hrel
      have HLE0 := Lib.hid (hr.len)
      have HLEN := Lib.hid (And.intro hlen hle)
      have HMEM := Lib.hid hmem
      have HGR := Lib.hid hgr
      have HOWN := Lib.hid hown
      have HOK := Lib.hid hok
      have CV := Lib.hid (value_any us (by have := hlen; omega) p z hz wr hr)
      have CC := Lib.hid (fun (r : List Tok) (h1 : ∀ t ∈ r, t ∈ ts) (h2 : r.length ≤ 600) W h => take_any ⟨#[44]⟩ 5 (fun t h => sign_kd (s := [44]) (by decide) (by decide) t h) r (fun t ht => HG.out t (h1 t ht)) h2 p z hz W h)
      have CS := Lib.hid (fun (r : List Tok) (h1 : ∀ t ∈ r, t ∈ ts) (h2 : r.length ≤ 600) W h => take_any ⟨#[41]⟩ 5 (fun t h => sign_kd (s := [41]) (by decide) (by decide) t h) r (fun t ht => HG.out t (h1 t ht)) h2 p z hz W h)
      clear hr hgr hmem hlen hle hown hok
      go_wp2_with fail
      refine Calls.mono CV.out ?_
      rintro e w3 ⟨hg3, ⟨hn, rfl, _⟩ | ⟨t, r, v, hts, hy, rfl, hr3⟩⟩
      · have HN := Lib.hid (show valuesT (ts.map core) = none by rw [hgo.out]; exact go_bad hn)
        have HG3 := Lib.hid (HGR.out.trans hg3)
        clear hn hg3
        rw [show bs [] = .string ⟨#[]⟩ from rfl]
        go_wp2_with fail
        refine bodyPost_ret (v := .tuple #[.slice none 0 0, .bool false]) (by simp [results, Tryz.results106, go_sem, *]) rfl ?_
        exact ⟨gr_alloc HG3.out _, Or.inl ⟨HN.out, _, _, _, rfl⟩⟩
      · have HMR := Lib.hid (show ∀ x ∈ r, x ∈ ts by have := HMEM.out; rw [hts] at this; exact mem_tail this)
        have HLR := Lib.hid (show r.length + 1 = us.length by rw [hts]; rfl)
        have HVO := Lib.hid (val_ok (fun t ht => HG.out t (HMEM.out t ht)) hy)
        have HVP := Lib.hid hy
        obtain ⟨sn, esn, _⟩ := bs_bytes v.name
        obtain ⟨ss, ess, _⟩ := bs_bytes v.str
        obtain ⟨tx, htx⟩ : ∃ x, x = v.text := ⟨_, rfl⟩
        obtain ⟨nm, hnm⟩ : ∃ x, x = v.num := ⟨_, rfl⟩
        have HAC := Lib.hid (show attC v = [.string sn, .bool tx, .int .i64 nm, .string ss] by rw [attC, esn, ess, htx, hnm])
        rw [esn, ess, ← htx, ← hnm]
        have HP3 : p < w3.heap.size := hr3.lt
        have HR5 := Lib.hid (show RdAt ((w3.alloc (.cells #[.string sn, .bool tx, .int .i64 nm, .string ss] 47)).alloc (.cells #[.string sn, .bool tx, .int .i64 nm, .string ss] 47)) p z r from (hr3.alloc hz _).alloc hz _)
        have HG5 := Lib.hid (show w.grownBy ((w3.alloc (.cells #[.string sn, .bool tx, .int .i64 nm, .string ss] 47)).alloc (.cells #[.string sn, .bool tx, .int .i64 nm, .string ss] 47)) (some p) from gr_alloc (gr_alloc (HGR.out.trans hg3) _) _)
        have HO5 := Lib.hid (show ((w3.alloc (.cells #[.string sn, .bool tx, .int .i64 nm, .string ss] 47)).alloc (.cells #[.string sn, .bool tx, .int .i64 nm, .string ss] 47)).ownsRow w.heap.size 47 4 _ vs.length (attsC vs) from
          own_keep HOWN.out fun g hgb => by
            have := own_lt'' HOWN.out hgb
            rw [Below.heap_alloc _ _ _ (by have := hg3.size; simp; omega), Below.heap_alloc _ _ _ (by have := hg3.size; omega)]
            exact hg3.block g this.2 (by intro e; cases e; omega))
        have NW := Lib.hid (show ∀ j u, ([.string sn, .bool tx, .int .i64 nm, .string ss] : List Value)[j]? = some u → ((w3.alloc (.cells #[.string sn, .bool tx, .int .i64 nm, .string ss] 47)).alloc (.cells #[.string sn, .bool tx, .int .i64 nm, .string ss] 47)).cell? ((⟨w3.heap.size + 1, 0, none⟩ : Addr).add j) = some u by
          have := news4 (w3.alloc (.cells #[.string sn, .bool tx, .int .i64 nm, .string ss] 47)) (.string sn) (.bool tx) (.int .i64 nm) (.string ss) 47
          rwa [show (w3.alloc (.cells #[.string sn, .bool tx, .int .i64 nm, .string ss] 47)).heap.size = w3.heap.size + 1 by simp] at this)
        have HBS := Lib.hid (show w.heap.size ≤ ((w3.alloc (.cells #[.string sn, .bool tx, .int .i64 nm, .string ss] 47)).alloc (.cells #[.string sn, .bool tx, .int .i64 nm, .string ss] 47)).heap.size from HG5.out.size)
        have hv600 : vs.length ≤ 600 := by have := HLEN.out.1; omega
        clear hts hy esn ess htx hnm hg3 hr3
        go_wp2_with (first | (at_builtin; refine wpList_append_own_at _ rfl _ _ 22 rfl w.heap.size 47 i0 (.agg #[.string ⟨#[]⟩, .bool false, .int .i64 0, .string ⟨#[]⟩]) 4 48 Tryz.underlying22 hi hz0 hz1 hz2 rfl (by decide) _ _ _ rfl HO5.out ⟨w3.heap.size + 1, 0, none⟩ 1 1 [.string sn, .bool tx, .int .i64 nm, .string ss] rfl rfl NW.out (by intro u hu; simp at hu; rcases hu with rfl | rfl | rfl | rfl <;> rfl) (by unfold maxLen; omega) (by omega) HBS.out ?_))
        intro v1 w6 hown6 hgrow _ hat
        have HG6 := Lib.hid (gr_own HG5.out hgrow (fun g hgb => (own_lt'' HO5.out hgb).1))
        have HR6 := Lib.hid (show RdAt w6 p z r from HR5.out.keep (hgrow.block p HR5.out.lt (fun e => by have := (own_lt'' HO5.out e.symm).1; omega)) (fun g hgz => hgrow.block g (by have := HR5.out.lt; omega) (fun e => by have := (own_lt'' HO5.out e.symm).1; omega)))
        have HO6 := Lib.hid (show w6.ownsRow w.heap.size 47 4 v1 (vs ++ [v]).length (attsC (vs ++ [v])) by rw [attsC_app, HAC.out, List.length_append]; exact hown6)
        have HOK6 := Lib.hid (show ∀ u ∈ vs ++ [v], attOk u from fun u hu => by
          rcases List.mem_append.1 hu with h | h
          · exact HOK.out u h
          · simp at h; rw [h]; exact HVO.out)
        have hrl : r.length ≤ 600 := by have := HLR.out; have := HLEN.out.1; omega
        clear hown6 hgrow hat
        go_wp2_with fail
        refine Calls.mono (CC.out r HMR.out hrl _ HR6.out) ?_
        rintro e w7 (⟨hn, rfl, rfl⟩ | ⟨t2, r2, hr2, hy2, rfl, hg7, hr7⟩)
        · have HGS := Lib.hid (go_shut (vs := vs) HVP.out (show takes sComma (r.map core) = none from hn))
          clear hn
          go_wp2_with fail
          refine Calls.mono (CS.out r HMR.out hrl _ HR6.out) ?_
          rintro e w8 (⟨hn, rfl, rfl⟩ | ⟨t2, r2, hr2, hy2, rfl, hg7, hr7⟩)
          · have HN := Lib.hid (show valuesT (ts.map core) = none by rw [hgo.out, HGS.out, show takes sShut (r.map core) = none from hn])
            obtain ⟨g1, cap1, hv1⟩ := own_form HO6.out (by simp)
            subst hv1
            clear hn
            go_wp2_with fail
            refine bodyPost_ret (v := .tuple #[_, .bool false]) (by simp [results, Tryz.results106, go_sem, *]; rfl) rfl ?_
            exact ⟨HG6.out, Or.inl ⟨HN.out, _, _, _, rfl⟩⟩
          · have HY := Lib.hid (show valuesT (ts.map core) = some (vs ++ [v], r2.map core) by rw [hgo.out, HGS.out, show takes sShut (r.map core) = some (r2.map core) from hy2])
            have HM2 := Lib.hid (show ∀ x ∈ r2, x ∈ ts by have := HMR.out; rw [hr2] at this; exact mem_tail this)
            have HL2 := Lib.hid (show r2.length ≤ ts.length by have h1 := HLR.out; have h2 := HLEN.out.2; rw [hr2] at h1; simp at h1; omega)
            have HG8 := Lib.hid (HG6.out.trans hg7)
            have HR8 := Lib.hid hr7
            have HO8 := Lib.hid (show w8.ownsRow w.heap.size 47 4 v1 (vs ++ [v]).length (attsC (vs ++ [v])) from own_keep HO6.out fun g hgb => hg7.block g (own_lt'' HO6.out hgb).2 (by intro e; cases e; have := (own_lt'' HO6.out hgb).1; omega))
            obtain ⟨g1, cap1, hv1⟩ := own_form HO6.out (by simp)
            subst hv1
            clear hr2 hy2 hg7 hr7
            go_wp2_with fail
            refine bodyPost_ret (v := .tuple #[_, .bool true]) (by simp [results, Tryz.results106, go_sem, *]; rfl) rfl ?_
            exact ⟨HG8.out, Or.inr ⟨vs ++ [v], r2, _, _, HY.out, by first | rfl | simp, HR8.out, HM2.out, HL2.out, HO8.out, HOK6.out, by simp; omega⟩⟩
        · have HGC := Lib.hid (go_comma (vs := vs) HVP.out (show takes sComma (r.map core) = some (r2.map core) from hy2))
          have HM2 := Lib.hid (show ∀ x ∈ r2, x ∈ ts by have := HMR.out; rw [hr2] at this; exact mem_tail this)
          have HL2 := Lib.hid (show r2.length + 1 = r.length by rw [hr2]; rfl)
          have HG8 := Lib.hid (HG6.out.trans hg7)
          have HR8 := Lib.hid hr7
          have HO8 := Lib.hid (show w7.ownsRow w.heap.size 47 4 v1 (vs ++ [v]).length (attsC (vs ++ [v])) from own_keep HO6.out fun g hgb => hg7.block g (own_lt'' HO6.out hgb).2 (by intro e; cases e; have := (own_lt'' HO6.out hgb).1; omega))
          have HEND := Lib.hid (show VlR ts p z w v1 w7 from ⟨vs ++ [v], r2, Lib.hid (by rw [hgo.out, HGC.out]), HR8.out, HG8.out, HM2.out, by have := HL2.out; have := HLR.out; have := HLEN.out.1; simp; omega, by have := HL2.out; have := HLR.out; have := HLEN.out.2; omega, HO8.out, HOK6.out⟩)
          have HMS := Lib.hid (show lenAt w7 p < lenAt wr p by rw [HLE0.out, HR8.out.len]; have := HL2.out; have := HLR.out; omega)
          clear hr2 hy2 hg7 hr7
          go_wp2
          go_roundw
          case rel => first | exact HEND.out | ((repeat apply Exists.intro); exact ⟨HEND.out, rfl⟩)
          case measure => exact HMS.out
end Go.Proofs.YtjffnjiggcfhcaaGreatDoor.Fl
namespace Go.Proofs.YtjffnjiggcfhcaaGreatDoor.Fl
open Go.RowKit Go.Proofs.YtjffnjiggcfhcaaGreatDoor.Tk
set_option linter.unusedVariables false
set_option linter.unusedSimpArgs false

def noX : Nat → Prop := fun _ => False
/-- What is told where there is none, and where there is one: it is memory of the call's own. -/
def RdEnd (res : Option (Flt × List Tc)) (ts : List Tok) (p z : Nat) (w w' : World) (e : Ending) : Prop :=
  w.grownBy w' (some p) ∧ ((res = none ∧ ∃ (k : Int) (s o : ByteArray) (a : Option Addr) (n c : Nat) (b : Option Addr) (m d : Nat), e = .returned (.tuple #[.agg #[.int .i64 k, .string s, .string o, .slice a n c, .slice b m d], .bool false])) ∨
    (∃ f r a c b d, res = some (f, r.map core) ∧ e = .returned (.tuple #[.agg #[.int .i64 f.kind, bs f.name, bs f.op, .slice a f.vals.length c, .slice b f.parts.length d], .bool true]) ∧ RdAt w' p z r ∧ (∀ t ∈ r, t ∈ ts) ∧ OwnF w' w.heap.size noX f a c b d))
/-- Block g holds these five, and may be written. -/
def Bx (W : World) (g : Nat) (x0 x1 x2 x3 x4 : Value) : Prop := Box W g x0 x1 x2 x3 x4 ∧ ∀ o, W.frozen? ⟨g, o, none⟩ = false
theorem Bx.new (w : World) (x0 x1 x2 x3 x4 : Value) (t : TypeId) : Bx (w.alloc (.cells #[x0, x1, x2, x3, x4] t)) w.heap.size x0 x1 x2 x3 x4 := ⟨Box.new .., fun o => by simp [go_sem]⟩
theorem Bx.same {W V : World} {g : Nat} {x0 x1 x2 x3 x4 : Value} (h : Bx W g x0 x1 x2 x3 x4) (e : V.heap[g]? = W.heap[g]?) : Bx V g x0 x1 x2 x3 x4 :=
  ⟨h.1.same e, fun o => (World.frozen?_of_block (w := W) (w' := V) (a := ⟨g, o, none⟩) e).trans (h.2 o)⟩
theorem Bx.gr {W V : World} {g p : Nat} {x0 x1 x2 x3 x4 : Value} (h : Bx W g x0 x1 x2 x3 x4) (hg : W.grownBy V (some p)) (hne : g ≠ p) : Bx V g x0 x1 x2 x3 x4 := h.same (hg.block g h.1.lt (by simpa using hne))
theorem Bx.later {W V : World} {g : Nat} {x0 x1 x2 x3 x4 : Value} (h : Bx W g x0 x1 x2 x3 x4) (hb : Below W.heap.size W V) : Bx V g x0 x1 x2 x3 x4 := h.same (hb.block g h.1.lt)
theorem Bx.alloc {W : World} {g : Nat} {x0 x1 x2 x3 x4 : Value} (h : Bx W g x0 x1 x2 x3 x4) (o : Obj) : Bx (W.alloc o) g x0 x1 x2 x3 x4 := h.same (Below.heap_alloc _ _ _ h.1.lt)
theorem blk_same {W V : World} {b : Nat} {x y u v : Value} (h : Blk W b x y u v) (e : V.heap[b]? = W.heap[b]?) (hs : W.heap.size ≤ V.heap.size) : Blk V b x y u v := by
  obtain ⟨h0, h1, h2, h3, hf, hlt⟩ := h
  have hq : ∀ x, V.cell? ⟨b, x, none⟩ = W.cell? ⟨b, x, none⟩ := fun x => World.cell?_of_block (w := W) (w' := V) (a := ⟨b, x, none⟩) e
  exact ⟨(hq _).trans h0, (hq _).trans h1, (hq _).trans h2, (hq _).trans h3, fun o => (World.frozen?_of_block (w := W) (w' := V) (a := ⟨b, o, none⟩) e).trans (hf o), Nat.lt_of_lt_of_le hlt hs⟩
theorem blk_gr {W V : World} {b p : Nat} {x y u v : Value} (h : Blk W b x y u v) (hg : W.grownBy V (some p)) (hne : b ≠ p) : Blk V b x y u v := blk_same h (hg.block b h.2.2.2.2.2 (by simpa using hne)) hg.size
theorem gr5 {w V : World} {r : Option Nat} {q : Nat} (h : w.grownBy V r) (hq : w.heap.size ≤ q) (x0 x1 x2 x3 x4 : Value) : w.grownBy (((((V.setCell ⟨q, 0, none⟩ x0).setCell ⟨q, 1, none⟩ x1).setCell ⟨q, 2, none⟩ x2).setCell ⟨q, 3, none⟩ x3).setCell ⟨q, 4, none⟩ x4) r :=
  gr_new (gr_new (gr_new (gr_new (gr_new h hq _) hq _) hq _) hq _) hq _
theorem set5_size (V : World) (q : Nat) (x0 x1 x2 x3 x4 : Value) : (((((V.setCell ⟨q, 0, none⟩ x0).setCell ⟨q, 1, none⟩ x1).setCell ⟨q, 2, none⟩ x2).setCell ⟨q, 3, none⟩ x3).setCell ⟨q, 4, none⟩ x4).heap.size = V.heap.size := by simp
theorem set5_block (V : World) (q g : Nat) (x0 x1 x2 x3 x4 : Value) (h : g ≠ q) : (((((V.setCell ⟨q, 0, none⟩ x0).setCell ⟨q, 1, none⟩ x1).setCell ⟨q, 2, none⟩ x2).setCell ⟨q, 3, none⟩ x3).setCell ⟨q, 4, none⟩ x4).heap[g]? = V.heap[g]? := by
  rw [Below.heap_setCell _ _ _ _ (by simpa using h), Below.heap_setCell _ _ _ _ (by simpa using h), Below.heap_setCell _ _ _ _ (by simpa using h), Below.heap_setCell _ _ _ _ (by simpa using h), Below.heap_setCell _ _ _ _ (by simpa using h)]
theorem rd5 {V : World} {p q z : Nat} {ts : List Tok} (h : RdAt V p z ts) (hq : q ≠ p) (hz : z ≤ q) (x0 x1 x2 x3 x4 : Value) : RdAt (((((V.setCell ⟨q, 0, none⟩ x0).setCell ⟨q, 1, none⟩ x1).setCell ⟨q, 2, none⟩ x2).setCell ⟨q, 3, none⟩ x3).setCell ⟨q, 4, none⟩ x4) p z ts :=
  h.keep (set5_block _ _ _ _ _ _ _ _ (fun e => hq e.symm)) fun g hg => set5_block _ _ _ _ _ _ _ _ (by omega)
/-- A filter without parts. -/
theorem leaf_own {W : World} {z : Nat} {k : Int} {n o : List UInt8} {vs : List Att} {a : Option Addr} {c : Nat} (hn : n.length ≤ maxLen) (ho : o.length ≤ maxLen) (hk : -9223372036854775808 ≤ k ∧ k ≤ 9223372036854775807) (ha : AttsAt W (fun g => z ≤ g ∧ g < W.heap.size) a vs) : OwnF W z noX (.mk k n o vs []) a c none 0 :=
  ⟨⟨hn, ho, hk.1, hk.2, by simp [Flt.parts]⟩, ha.far fun g ⟨h1, h2⟩ => ⟨⟨h1, h2, fun h => h, by simp [Value.ownBlock]⟩, rfl⟩, OwnL.nil W z noX⟩
/-- One value in a new block. -/
theorem att_new {W : World} {z : Nat} (v : Att) (hv : attOk v) (hz : z ≤ W.heap.size) (x : Value) (y : Value) (u : Value) (q : Value) (e : attC v = [x, y, u, q]) : AttsAt (W.alloc (.cells #[x, y, u, q] 47)) (fun g => z ≤ g ∧ g < (W.alloc (.cells #[x, y, u, q] 47)).heap.size) (some ⟨W.heap.size, 0, none⟩) [v] := by
  refine ⟨by unfold maxLen; simp, fun u hu => by simp at hu; rw [hu]; exact hv, fun _ => ⟨W.heap.size, 0, rfl, ⟨hz, by simp⟩, fun k hk => ?_⟩⟩
  have hk0 : k = 0 := by simp at hk; omega
  subst hk0
  obtain ⟨h0, h1, h2, h3, _, _⟩ := Blk.new W x y u q 47
  simp only [attC, List.cons.injEq, and_true] at e
  obtain ⟨e0, e1, e2, e3⟩ := e
  simp only [List.getElem_cons_zero, Nat.zero_mul, Nat.add_zero]
  rw [e0, e1, e2, e3]
  exact ⟨h0, h1, h2, h3⟩
theorem AttsAt.move {W V : World} {z : Nat} {a : Option Addr} {vs : List Att} (h : AttsAt W (fun g => z ≤ g ∧ g < W.heap.size) a vs) (hs : W.heap.size ≤ V.heap.size) (hk : ∀ g, z ≤ g → g < W.heap.size → V.heap[g]? = W.heap[g]?) {z' : Nat} (hz : z' ≤ z) : AttsAt V (fun g => z' ≤ g ∧ g < V.heap.size) a vs :=
  h.far fun g ⟨h1, h2⟩ => ⟨⟨Nat.le_trans hz h1, Nat.lt_of_lt_of_le h2 hs⟩, hk g h1 h2⟩
theorem set5_box {V : World} {q : Nat} {y0 y1 y2 y3 y4 : Value} (h : Bx V q y0 y1 y2 y3 y4) (x0 x1 x2 x3 x4 : Value) : Box (((((V.setCell ⟨q, 0, none⟩ x0).setCell ⟨q, 1, none⟩ x1).setCell ⟨q, 2, none⟩ x2).setCell ⟨q, 3, none⟩ x3).setCell ⟨q, 4, none⟩ x4) q x0 x1 x2 x3 x4 := by
  obtain ⟨⟨h0, h1, h2, h3, h4⟩, _⟩ := h
  refine ⟨?_, ?_, ?_, ?_, ?_⟩ <;> simp [go_sem, h0, h1, h2, h3, h4]
theorem ret5 {s t : Nat} {fn : Func} {R : Ending → World → Prop} {a : Act} {V : World} {q : Nat} {x0 x1 x2 x3 x4 b : Value} (hr : fn.results = #[.cell s 25, .tmp t]) (h2 : a.tmps.getD s undef = .pointer (some ⟨q, 0, none⟩)) (h3 : a.tmps.getD t undef = b) (hb : Box V q x0 x1 x2 x3 x4) (hd : a.defers = [])
    (hR : R (.returned (.tuple #[.agg #[x0, x1, x2, x3, x4], b])) V) : bodyPost Tryz.prog fn R .ret a V := by
  obtain ⟨b0, b1, b2, b3, b4⟩ := hb
  refine bodyPost_ret (v := .tuple #[.agg #[x0, x1, x2, x3, x4], b]) ?_ hd hR
  rw [Array.getD_eq_getD_getElem?] at h2 h3
  simp [results, hr, go_sem, h2, h3, b0, b1, b2, b3, b4]
/-- Block g is a filter's five cells, and may be written. -/
def Rw (W : World) (g : Nat) (cs : Array Value) : Prop := W.heap[g]? = some (.cells cs 25 (0, 0))
theorem Rw.new (w : World) (cs : Array Value) : Rw (w.alloc (.cells cs 25)) w.heap.size cs := heap_alloc_new w _
theorem Rw.lt {W : World} {g : Nat} {cs : Array Value} (h : Rw W g cs) : g < W.heap.size := (Array.getElem?_eq_some_iff.1 h).1
theorem Rw.same {W V : World} {g : Nat} {cs : Array Value} (h : Rw W g cs) (e : V.heap[g]? = W.heap[g]?) : Rw V g cs := e.trans h
theorem Rw.gr {W V : World} {g p : Nat} {cs : Array Value} (h : Rw W g cs) (hg : W.grownBy V (some p)) (hne : g ≠ p) : Rw V g cs := h.same (hg.block g h.lt (by simpa using hne))
theorem Rw.later {W V : World} {g : Nat} {cs : Array Value} (h : Rw W g cs) (hb : Below W.heap.size W V) : Rw V g cs := h.same (hb.block g h.lt)
theorem Rw.alloc {W : World} {g : Nat} {cs : Array Value} (h : Rw W g cs) (o : Obj) : Rw (W.alloc o) g cs := h.same (Below.heap_alloc _ _ _ h.lt)
theorem Rw.alloc2 {W : World} {g : Nat} {cs : Array Value} (h : Rw W g cs) (o u : Obj) : Rw ((W.alloc o).alloc u) g cs := (h.alloc o).alloc u
theorem Rw.alloc3 {W : World} {g : Nat} {cs : Array Value} (h : Rw W g cs) (o u x : Obj) : Rw (((W.alloc o).alloc u).alloc x) g cs := (h.alloc2 o u).alloc x
theorem Rw.set {W : World} {g : Nat} {cs : Array Value} (h : Rw W g cs) (ds : Array Value) : Rw (W.setRow g ds) g ds := setRow_heap W g cs ds _ _ h
theorem Rw.box {W : World} {g : Nat} {x0 x1 x2 x3 x4 : Value} (h : Rw W g #[x0, x1, x2, x3, x4]) : Box W g x0 x1 x2 x3 x4 := by
  unfold Rw at h
  refine ⟨?_, ?_, ?_, ?_, ?_⟩ <;> simp [World.cell?, h]
theorem gr_row {w V : World} {r : Option Nat} {q : Nat} (h : w.grownBy V r) (hq : w.heap.size ≤ q) (cs : Array Value) : w.grownBy (V.setRow q cs) r :=
  ⟨h.os, h.tape, h.output, by have := h.size; simpa using this, fun k hk hne => (setRow_other V q k cs (by omega)).trans (h.block k hk hne)⟩
theorem rd_row {V : World} {p q z : Nat} {ts : List Tok} (h : RdAt V p z ts) (hq : q ≠ p) (hz : z ≤ q) (cs : Array Value) : RdAt (V.setRow q cs) p z ts :=
  h.keep (setRow_other V q p cs (fun e => hq e.symm)) fun g hg => setRow_other V q g cs (by omega)
/-- Values lie in later blocks than q: a store into q leaves them. -/
theorem AttsAt.row {W : World} {q z : Nat} {a : Option Addr} {vs : List Att} (h : AttsAt W (fun g => z ≤ g ∧ g < W.heap.size) a vs) (hz : q < z) (cs : Array Value) : AttsAt (W.setRow q cs) (fun g => q ≤ g ∧ g < (W.setRow q cs).heap.size) a vs :=
  h.far fun g ⟨h1, h2⟩ => ⟨⟨by omega, by simpa using h2⟩, setRow_other W q g cs (by omega)⟩
end Go.Proofs.YtjffnjiggcfhcaaGreatDoor.Fl
