/-
  Contract of row of package token, at each of the three functions that it is handed: how many bytes a text begins with that are all of one sort. Memory is left as it was.
-/
import Derived.Test.YtmfkpoojfpepaaaGreatDoorMp02
import Derived.BigQuiet
import Derived.Test.YtmfkpoojfpepaaaGreatDoorMp01
import Derived.Test.YtmfkpoojfpepaaaGreatDoorProg
import Derived.WalkKit
import Derived.WalkSpells
import Derived.Lib.Strings
import Derived.Lib.Hide
import Derived.Below
import Derived.Handy
import Derived.KernelRfl
import Derived.Lib.IndexBytes
/-
  Contracts of package filter's functions on values: may an attribute be a value, may all of a list, are they of one sort. Memory that was there is left as it was.
-/
namespace Go.Proofs.YtmfkpoojfpepaaaGreatDoor.Fl
open Go.RowKit
set_option linter.unusedVariables false
set_option linter.unusedSimpArgs false

theorem isNoValue_any (sn : ByteArray) (tx : Bool) (n : Int) (ss : ByteArray) (w : World) : Calls Tryz.prog 85 #[.agg #[.string sn, .bool tx, .int .i64 n, .string ss]] w fun e w' => e = .returned (.bool (!(valB ⟨sn.data.toList, tx, n, ss.data.toList⟩))) ∧ Below w.heap.size w w' := by
  have CT := Lib.hid (fun W => isText_any ss W)
  obtain ⟨pl, hpl⟩ : ∃ b, plainB ss.data.toList = b := ⟨_, rfl⟩
  have HV := Lib.hid (show valB ⟨sn.data.toList, tx, n, ss.data.toList⟩ = (sn.toList == [] && (if tx then n == 0 && pl else ss.toList == [])) by rw [← Lib.toList_data, ← hpl, ← Lib.toList_data]; rfl)
  rw [hpl] at CT
  clear hpl
  obtain ⟨res, hres⟩ : ∃ b, valB ⟨sn.data.toList, tx, n, ss.data.toList⟩ = b := ⟨_, rfl⟩
  rw [hres] at HV ⊢
  clear hres
  cases tx
  · go_enter Tryz.func85, Tryz.ntmps85
    go_wp2
    all_goals go_ret
    all_goals exact ⟨by rw [HV.out]; clear HV CT; simp_all, (Below.refl _ _).alloc (Nat.le_refl _) _⟩
  · go_enter Tryz.func85, Tryz.ntmps85
    go_wp2_with (first | (go_at_call 88; refine (CT.out _).mono ?_; rintro e w1 ⟨rfl, rfl⟩))
    all_goals go_ret
    all_goals exact ⟨by rw [HV.out]; clear HV CT; simp_all, (Below.refl _ _).alloc (Nat.le_refl _) _⟩

/-- Where a value that may not be stands first. -/
def firstNo : List Att → Int
  | [] => -1
  | v :: r => if valB v = true then (if firstNo r = -1 then -1 else firstNo r + 1) else 0
def InR (vs : List Att) (w : World) (vi : Value) (wr : World) : Prop :=
  ∃ k : Nat, k ≤ vs.length ∧ vi = .int .i64 k ∧ Hid (∀ v ∈ vs.take k, valB v = true) ∧ Below w.heap.size w wr
theorem take_more {vs : List Att} {k : Nat} {v : Att} (h : ∀ v ∈ vs.take k, valB v = true) (hk : vs[k]? = some v) (hv : valB v = true) : ∀ v ∈ vs.take (k + 1), valB v = true := by
  rw [List.take_add_one, hk]
  intro u hu
  rcases List.mem_append.1 hu with hu | hu
  · exact h u hu
  · simp at hu
    rw [hu]
    exact hv
theorem bs_bytes (l : List UInt8) : ∃ s : ByteArray, bs l = .string s ∧ s.data.toList = l := ⟨⟨l.toArray⟩, rfl, rfl⟩
set_option maxHeartbeats 1000000 in
set_option maxRecDepth 100000 in
/-- The number that IndexFunc answers is at least 0, if and only if one may not be. -/
theorem index_any (vs : List Att) (a : Option Addr) (cap : Nat) (w : World) (h : AttsAt w (Old w.heap.size) a vs) :
    Calls Tryz.prog 49 #[.slice a vs.length cap, .func (.func 85) #[] #[]] w fun e w' =>
      (∃ k : Nat, e = .returned (.int .i64 (k : Nat)) ∧ vs.all valB = false ∨ e = .returned (.int .i64 (-1)) ∧ vs.all valB = true) ∧ Below w.heap.size w w' := by
  obtain ⟨res, hres⟩ : ∃ b, vs.all valB = b := ⟨_, rfl⟩
  have HR := Lib.hid hres
  rw [hres]
  clear hres
  obtain ⟨n, hn⟩ : ∃ n, n = vs.length := ⟨_, rfl⟩
  have hm : n ≤ 9223372036854775807 := by have := h.1; unfold maxLen at this; omega
  have HN := Lib.hid hn
  have HA := Lib.hid h
  rw [← hn]
  clear hn h
  go_enter Tryz.func49, Tryz.ntmps49
  go_wp2_with fail
  go_loopw [8] (fun vi wr => InR vs w vi wr) (fun vi _ => n - (intOf vi).toNat)
  case atStart => exact ⟨0, Nat.zero_le _, rfl, Lib.hid (by simp), Below.refl _ _⟩
  case round =>
    obtain ⟨k, hk, rfl, hall, hB⟩ := hrel
    have HK := Lib.hid hk
    have HB := Lib.hid hB
    clear hk hB
    by_cases hlt : k < n
    · have hlz : (k : Int) < (n : Int) := by omega
      have hkl : k < vs.length := by rw [← HN.out]; exact hlt
      obtain ⟨g, o, hg, hgl, hc⟩ := (HA.out.later HB.out).2.2 (by omega)
      obtain ⟨c0, c1, c2, c3⟩ := hc k hkl
      obtain ⟨V, hV⟩ : ∃ V, V = vs[k] := ⟨_, rfl⟩
      rw [← hV] at c0 c1 c2 c3
      obtain ⟨sn, e0, hsn⟩ := bs_bytes V.name
      obtain ⟨ss, e3, hss⟩ := bs_bytes V.str
      obtain ⟨tx, htx⟩ : ∃ x, x = V.text := ⟨_, rfl⟩
      obtain ⟨nm, hnm⟩ : ∃ x, x = V.num := ⟨_, rfl⟩
      rw [e0] at c0
      rw [← htx] at c1
      rw [← hnm] at c2
      rw [e3] at c3
      have HVB := Lib.hid (show valB ⟨sn.data.toList, tx, nm, ss.data.toList⟩ = valB V by rw [hsn, hss, htx, hnm])
      have HVK := Lib.hid (show vs[k]? = some V by rw [hV]; exact List.getElem?_eq_getElem hkl)
      obtain rfl := hg
      clear hc hV e0 hsn e3 hss htx hnm hgl
      go_wp2_with fail
      refine (isNoValue_any sn tx nm ss _).mono ?_
      rintro e w1 ⟨rfl, hb⟩
      rw [HVB.out]
      have HB1 := Lib.hid (HB.out.trans (hb.mono HB.out.size))
      clear hb
      cases hv : valB V
      · have HF := Lib.hid (show res = false by rw [← HR.out, List.all_eq_false]; exact ⟨V, List.mem_of_getElem? HVK.out, by simp [hv]⟩)
        clear hv
        go_wp2_with fail
        go_ret
        exact ⟨⟨k, Or.inl ⟨rfl, HF.out⟩⟩, HB1.out⟩
      · have HF := Lib.hid (take_more hall.out HVK.out hv)
        clear hv
        go_wp2_with fail
        go_roundw
        case rel => exact ⟨k + 1, by omega, by go_num, HF, HB1.out⟩
        case measure => simp [intOf]; omega
    · have hlz : ¬ (k : Int) < (n : Int) := by omega
      have hkk : k = n := by have := HN.out; have := HK.out; omega
      have HF := Lib.hid (show res = true by
        have := hall.out
        rw [hkk, HN.out, List.take_length] at this
        rw [← HR.out, List.all_eq_true]
        exact this)
      go_wp2_with fail
      go_ret
      exact ⟨⟨0, Or.inr ⟨rfl, HF.out⟩⟩, HB.out⟩
theorem contains_any (vs : List Att) (a : Option Addr) (cap : Nat) (w : World) (h : AttsAt w (Old w.heap.size) a vs) :
    Calls Tryz.prog 32 #[.slice a vs.length cap, .func (.func 85) #[] #[]] w fun e w' => e = .returned (.bool (!(vs.all valB))) ∧ Below w.heap.size w w' := by
  have HC := Lib.hid (index_any vs a cap w h)
  obtain ⟨res, hres⟩ : ∃ b, vs.all valB = b := ⟨_, rfl⟩
  rw [hres] at HC ⊢
  obtain ⟨n, hn⟩ : ∃ n, n = vs.length := ⟨_, rfl⟩
  rw [← hn] at HC ⊢
  clear hn hres h
  go_enter Tryz.func32, Tryz.ntmps32
  go_wp2_with fail
  refine HC.out.mono ?_
  rintro e w1 ⟨⟨k, h⟩, hb⟩
  rcases h with ⟨rfl, rfl⟩ | ⟨rfl, rfl⟩
  · have hk : (0 : Int) ≤ (k : Int) := by omega
    go_wp2_with fail
    go_ret
    exact ⟨rfl, hb⟩
  · go_wp2_with fail
    go_ret
    exact ⟨rfl, hb⟩

/-- All of one sort. -/
def sortB : List Att → Bool
  | [] => true
  | v :: r => r.all fun u => u.text == v.text
theorem sort_eq {v : Att} {r : List Att} : sortB (v :: r) = (v :: r).all fun u => u.text == v.text := by simp [sortB]
def OneR (vs : List Att) (t : Bool) (w : World) (vi : Value) (wr : World) : Prop :=
  ∃ k : Nat, k ≤ vs.length ∧ vi = .int .i64 k ∧ Hid (∀ v ∈ vs.take k, (v.text == t) = true) ∧ Below w.heap.size w wr
theorem take_more' {vs : List Att} {k : Nat} {v : Att} {p : Att → Bool} (h : ∀ v ∈ vs.take k, p v = true) (hk : vs[k]? = some v) (hv : p v = true) : ∀ v ∈ vs.take (k + 1), p v = true := by
  rw [List.take_add_one, hk]
  intro u hu
  rcases List.mem_append.1 hu with hu | hu
  · exact h u hu
  · simp at hu
    rw [hu]
    exact hv
set_option maxHeartbeats 1000000 in
set_option maxRecDepth 100000 in
theorem oneSort_any (vs : List Att) (a : Option Addr) (cap : Nat) (w : World) (h : AttsAt w (Old w.heap.size) a vs) :
    Calls Tryz.prog 73 #[.slice a vs.length cap] w fun e w' => e = .returned (.bool (sortB vs)) ∧ Below w.heap.size w w' := by
  obtain ⟨n, hn⟩ : ∃ n, n = vs.length := ⟨_, rfl⟩
  have hm : n ≤ 9223372036854775807 := by have := h.1; unfold maxLen at this; omega
  have HN := Lib.hid hn
  have HA := Lib.hid h
  rw [← hn]
  clear hn h
  obtain ⟨t0, ht0⟩ : ∃ t : Bool, ∀ v, vs[0]? = some v → v.text = t := by
    cases e : vs[0]? with
    | none => exact ⟨true, fun v h => by cases h⟩
    | some v => exact ⟨v.text, fun u h => by cases h; rfl⟩
  have HS := Lib.hid (show sortB vs = vs.all fun u => u.text == t0 by
    match vs, ht0 with
    | [], _ => rfl
    | v :: r, ht0 => rw [sort_eq, ht0 v rfl])
  have HT0 := Lib.hid ht0
  obtain ⟨res, hres⟩ : ∃ b, sortB vs = b := ⟨_, rfl⟩
  rw [hres] at HS ⊢
  clear hres ht0
  go_enter Tryz.func73, Tryz.ntmps73
  go_wp2_with fail
  go_loopw [7] (fun vi wr => OneR vs t0 w vi wr) (fun vi _ => n - (intOf vi).toNat)
  case atStart => exact ⟨0, Nat.zero_le _, rfl, Lib.hid (by simp), Below.refl _ _⟩
  case round =>
    obtain ⟨k, hk, rfl, hall, hB⟩ := hrel
    have HK := Lib.hid hk
    have HB := Lib.hid hB
    clear hk hB
    by_cases hlt : k < n
    · have hlz : (k : Int) < (n : Int) := by omega
      have hnz : (0 : Int) < (n : Int) := by omega
      have hkl : k < vs.length := by rw [← HN.out]; exact hlt
      obtain ⟨g, o, hg, hgl, hc⟩ := (HA.out.later HB.out).2.2 (by omega)
      obtain ⟨c0, c1, c2, c3⟩ := hc k hkl
      obtain ⟨_, d1, _, _⟩ := hc 0 (by omega)
      obtain ⟨V, hV⟩ : ∃ V, V = vs[k] := ⟨_, rfl⟩
      rw [← hV] at c0 c1 c2 c3
      rw [HT0.out _ (List.getElem?_eq_getElem (by omega))] at d1
      simp only [Nat.zero_mul, Nat.add_zero] at d1
      obtain ⟨sn, e0, hsn⟩ := bs_bytes V.name
      obtain ⟨ss, e3, hss⟩ := bs_bytes V.str
      obtain ⟨tx, htx⟩ : ∃ x, x = V.text := ⟨_, rfl⟩
      obtain ⟨nm, hnm⟩ : ∃ x, x = V.num := ⟨_, rfl⟩
      rw [e0] at c0
      rw [← htx] at c1
      rw [← hnm] at c2
      rw [e3] at c3
      have HTX := Lib.hid htx
      have HVK := Lib.hid (show vs[k]? = some V by rw [hV]; exact List.getElem?_eq_getElem hkl)
      obtain rfl := hg
      have hgs : g < wr.heap.size := Nat.lt_of_lt_of_le hgl HB.out.size
      clear hc hV e0 hsn e3 hss htx hnm hgl
      cases tx <;> cases t0
      all_goals go_wp2_with fail
      all_goals go_region
      all_goals go_wp2_with fail
      all_goals first
        | (go_roundw
           case rel => exact ⟨k + 1, by omega, by go_num, Lib.hid (take_more' (p := fun u => u.text == _) hall.out HVK.out (by rw [← HTX.out]; rfl)), (HB.out.alloc HB.out.size _).drew⟩
           case measure => simp [intOf]; omega)
        | (have HF := Lib.hid (show res = false by rw [HS.out, List.all_eq_false]; exact ⟨V, List.mem_of_getElem? HVK.out, by simp [← HTX.out]⟩)
           go_ret
           exact ⟨by rw [HF.out]; rfl, (HB.out.alloc HB.out.size _).drew⟩)
    · have hlz : ¬ (k : Int) < (n : Int) := by omega
      have hkk : k = n := by have := HN.out; have := HK.out; omega
      have HF := Lib.hid (show res = true by
        have := hall.out
        rw [hkk, HN.out, List.take_length] at this
        rw [HS.out, List.all_eq_true]
        exact this)
      go_wp2_with fail
      go_ret
      exact ⟨by rw [HF.out]; rfl, HB.out⟩
end Go.Proofs.YtmfkpoojfpepaaaGreatDoor.Fl
/-
  Plain facts on filters: what is read of a row of tokens takes a beginning of it, of at least so many tokens as the filter has nodes. No program here.
-/
namespace Go.Proofs.YtmfkpoojfpepaaaGreatDoor.Fl
set_option linter.unusedVariables false
set_option linter.unusedSimpArgs false

theorem takes_is {s : List UInt8} {ts r : List Tc} (h : takes s ts = some r) : ∃ t, ts = t :: r ∧ (t.kind = 2 ∨ t.kind = 5) ∧ t.str = s := by
  match ts, h with
  | t :: u, h =>
    simp only [takes] at h
    by_cases hc : (t.kind = 2 ∨ t.kind = 5) ∧ t.str = s
    · rw [if_pos hc] at h
      cases h
      exact ⟨t, rfl, hc⟩
    · rw [if_neg hc] at h
      cases h
theorem val_is {ts r : List Tc} {v : Att} (h : valP ts = some (v, r)) : ∃ t, ts = t :: r := by
  match ts, h with
  | t :: u, h =>
    simp only [valP] at h
    by_cases h4 : t.kind = 4
    · rw [if_pos h4] at h; cases h; exact ⟨t, rfl⟩
    · rw [if_neg h4] at h
      by_cases h3 : t.kind = 3
      · rw [if_pos h3] at h; cases h; exact ⟨t, rfl⟩
      · rw [if_neg h3] at h; cases h
/-- r is what is left of ts behind at least n tokens. -/
def Left (ts r : List Tc) (n : Nat) : Prop := (∃ j, r = ts.drop j) ∧ n + r.length ≤ ts.length
theorem Left.refl (ts : List Tc) : Left ts ts 0 := ⟨⟨0, rfl⟩, by omega⟩
theorem Left.trans {a b c : List Tc} {n m : Nat} (h : Left a b n) (g : Left b c m) : Left a c (n + m) := by
  obtain ⟨⟨i, rfl⟩, h2⟩ := h
  obtain ⟨⟨j, rfl⟩, g2⟩ := g
  exact ⟨⟨i + j, by rw [List.drop_drop]⟩, by omega⟩
theorem Left.mono {a b : List Tc} {n m : Nat} (h : Left a b n) (hm : m ≤ n) : Left a b m := ⟨h.1, by have := h.2; omega⟩
theorem left_cons (t : Tc) (r : List Tc) : Left (t :: r) r 1 := ⟨⟨1, rfl⟩, by simp; omega⟩
theorem takes_left {s : List UInt8} {ts r : List Tc} (h : takes s ts = some r) : Left ts r 1 := by
  obtain ⟨t, rfl, _⟩ := takes_is h
  exact left_cons t r
theorem val_left {ts r : List Tc} {v : Att} (h : valP ts = some (v, r)) : Left ts r 1 := by
  obtain ⟨t, rfl⟩ := val_is h
  exact left_cons t r
theorem vals_left {tx : Bool} : ∀ {n : Nat} {ts r : List Tc} {vs : List Att}, valsP tx n ts = some (vs, r) → Left ts r (vs.length + 1)
  | 0, _, _, _, h => by cases h
  | n + 1, ts, r, vs, h => by
    simp only [valsP] at h
    cases h1 : takes sComma ts with
    | some r1 =>
      simp only [h1] at h
      cases h2 : valP r1 with
      | none => simp [h2] at h
      | some x =>
        obtain ⟨v, r2⟩ := x
        simp only [h2] at h
        split at h
        · cases h3 : valsP tx n r2 with
          | none => simp [h3] at h
          | some x =>
            obtain ⟨us, r3⟩ := x
            simp only [h3] at h
            cases h
            have := ((takes_left h1).trans (val_left h2)).trans (vals_left h3)
            exact this.mono (by simp; omega)
        · cases h
    | none =>
      simp only [h1] at h
      cases h2 : takes sShut ts with
      | none => simp [h2] at h
      | some r1 =>
        simp only [h2] at h
        cases h
        exact takes_left h2
theorem leaf_left {ts r : List Tc} {f : Flt} (h : leafP ts = some (f, r)) : sz f = 1 ∧ Left ts r (f.vals.length + 1) := by
  match ts, h with
  | t :: u, h =>
    simp only [leafP] at h
    split at h
    · cases h1 : takes wIn u with
      | some r1 =>
        simp only [h1] at h
        cases h2 : takes sOpen r1 with
        | none => simp [h2] at h
        | some r2 =>
          simp only [h2] at h
          cases h3 : valP r2 with
          | none => simp [h3] at h
          | some x =>
            obtain ⟨v, r3⟩ := x
            simp only [h3] at h
            cases h4 : valsP v.text (r3.length + 1) r3 with
            | none => simp [h4] at h
            | some x =>
              obtain ⟨vs, r4⟩ := x
              simp only [h4] at h
              cases h
              have := ((((left_cons t u).trans (takes_left h1)).trans (takes_left h2)).trans (val_left h3)).trans (vals_left h4)
              exact ⟨rfl, this.mono (by simp [Flt.vals]; omega)⟩
      | none =>
        simp only [h1] at h
        cases h2 : takes sPre u with
        | some r1 =>
          simp only [h2] at h
          cases h3 : valP r1 with
          | none => simp [h3] at h
          | some x =>
            obtain ⟨v, r2⟩ := x
            simp only [h3] at h
            split at h
            · cases h
              have := ((left_cons t u).trans (takes_left h2)).trans (val_left h3)
              exact ⟨rfl, this.mono (by simp [Flt.vals])⟩
            · cases h
        | none =>
          simp only [h2] at h
          match u, h with
          | o :: r1, h =>
            simp only at h
            split at h
            · cases h3 : valP r1 with
              | none => simp [h3] at h
              | some x =>
                obtain ⟨v, r2⟩ := x
                simp only [h3] at h
                cases h
                have := ((left_cons t (o :: r1)).trans (left_cons o r1)).trans (val_left h3)
                exact ⟨rfl, this.mono (by simp [Flt.vals])⟩
            · cases h
    · cases h
theorem szL_app : ∀ l m : List Flt, szL (l ++ m) = szL l + szL m
  | [], m => by simp [szL]
  | p :: r, m => by
    have := szL_app r m
    simp only [List.cons_append, szL, this]
    omega
theorem add_sz (f x : Flt) : sz (add f x) ≤ sz f + sz x := by
  obtain ⟨k, n, o, v, l⟩ := f
  obtain ⟨k2, n2, o2, v2, l2⟩ := x
  unfold add
  split
  · simp only [sz, Flt.parts, szL_app]; omega
  · simp only [sz, Flt.parts, szL_app, szL]; omega
def Con (sub : List Tc → Option (Flt × List Tc)) : Prop := ∀ ts f r, sub ts = some (f, r) → Left ts r (sz f)
theorem tail_left {w : List UInt8} {sub : List Tc → Option (Flt × List Tc)} (hs : Con sub) : ∀ {n : Nat} {acc f : Flt} {ts r : List Tc}, tailP w sub n acc ts = some (f, r) →
    (takes w ts = none ∧ f = acc ∧ r = ts) ∨ ∃ m, sz f ≤ sz acc + m ∧ Left ts r (m + 1)
  | 0, _, _, _, _, h => by cases h
  | n + 1, acc, f, ts, r, h => by
    simp only [tailP] at h
    cases h1 : takes w ts with
    | none => simp only [h1] at h; cases h; exact Or.inl ⟨rfl, rfl, rfl⟩
    | some r1 =>
      simp only [h1] at h
      cases h2 : sub r1 with
      | none => simp [h2] at h
      | some x =>
        obtain ⟨y, r2⟩ := x
        simp only [h2] at h
        have hl := (takes_left h1).trans (hs _ _ _ h2)
        have ha := add_sz acc y
        rcases tail_left hs h with ⟨_, rfl, rfl⟩ | ⟨m, hm, hr⟩
        · exact Or.inr ⟨sz y, ha, hl.mono (by omega)⟩
        · exact Or.inr ⟨sz y + m, by omega, (hl.trans hr).mono (by omega)⟩
theorem chain_con {w : List UInt8} {k : Int} {sub : List Tc → Option (Flt × List Tc)} (hs : Con sub) : Con (chainP w k sub) := fun ts f r h => by
  simp only [chainP] at h
  cases h1 : sub ts with
  | none => simp [h1] at h
  | some x =>
    obtain ⟨x, r1⟩ := x
    simp only [h1] at h
    have hl := hs _ _ _ h1
    cases h2 : takes w r1 with
    | none => simp only [h2] at h; cases h; exact hl
    | some r2 =>
      simp only [h2] at h
      have ha := add_sz (.mk k [] [] [] []) x
      have h0 : sz (.mk k [] [] [] []) = 1 := rfl
      rcases tail_left hs h with ⟨h3, _, _⟩ | ⟨m, hm, hr⟩
      · rw [h2] at h3; cases h3
      · exact (hl.trans hr).mono (by omega)
theorem not_con : ∀ n : Nat, Con (notP n)
  | 0 => fun ts f r h => by cases h
  | n + 1 => fun ts f r h => by
    have ih := not_con n
    simp only [notP] at h
    cases h1 : takes wNot ts with
    | some r1 =>
      simp only [h1] at h
      cases h2 : notP n r1 with
      | none => simp [h2] at h
      | some x =>
        obtain ⟨x, r2⟩ := x
        simp only [h2] at h
        cases h
        exact ((takes_left h1).trans (ih _ _ _ h2)).mono (by simp [sz, szL]; omega)
    | none =>
      simp only [h1] at h
      cases h2 : takes sOpen ts with
      | some r1 =>
        simp only [h2] at h
        cases h3 : chainP wOr 2 (chainP wAnd 1 (notP n)) r1 with
        | none => simp [h3] at h
        | some x =>
          obtain ⟨x, r2⟩ := x
          simp only [h3] at h
          cases h4 : takes sShut r2 with
          | none => simp [h4] at h
          | some r3 =>
            simp only [h4] at h
            cases h
            exact (((takes_left h2).trans (chain_con (chain_con ih) _ _ _ h3)).trans (takes_left h4)).mono (by omega)
      | none =>
        simp only [h2] at h
        cases h3 : takes wTrue ts with
        | some r1 =>
          simp only [h3] at h
          cases h
          exact takes_left h3
        | none =>
          simp only [h3] at h
          obtain ⟨e, hl⟩ := leaf_left h
          exact hl.mono (by omega)
theorem or_con (n : Nat) : Con (orP n) := chain_con (chain_con (not_con n))
end Go.Proofs.YtmfkpoojfpepaaaGreatDoor.Fl
/-
  Plain facts on filters: what is read of good tokens may be, but for its limits. No program here.
-/
namespace Go.Proofs.YtmfkpoojfpepaaaGreatDoor.Fl
set_option linter.unusedVariables false
set_option linter.unusedSimpArgs false

/-- As leafB and fine, however many values there are. -/
def leafO (k : Int) (n o : List UInt8) : List Att → Bool
  | [] => false
  | v :: r => nameB n && valB v && r.all (fun u => valB u && u.text == v.text) && (if k = 6 then o == [] else if k = 5 then r.isEmpty && v.text && o == [] else r.isEmpty && opB o)
mutual
def fineO : Flt → Bool
  | .mk k n o vs l =>
    if k = 4 ∨ k = 5 ∨ k = 6 then leafO k n o vs && l.isEmpty
    else n == [] && o == [] && vs.isEmpty && (if k = 1 ∨ k = 2 then decide (2 ≤ l.length) else if k = 3 then decide (l.length = 1) else decide (k = 7) && l.isEmpty) && fineOL k l
def fineOL (k : Int) : List Flt → Bool
  | [] => true
  | p :: r => fineO p && (decide (k = 3) || !decide (p.kind = k)) && fineOL k r
end
mutual
/-- No more than twenty values anywhere. -/
def slim : Flt → Bool
  | .mk _ _ _ vs l => decide (vs.length ≤ 20) && slimL l
def slimL : List Flt → Bool
  | [] => true
  | p :: r => slim p && slimL r
end
theorem leaf_of {k : Int} {n o : List UInt8} {vs : List Att} (h : leafO k n o vs = true) (hs : vs.length ≤ 20) : leafB k n o vs = true := by
  match vs, h, hs with
  | v :: r, h, hs =>
    have hr : r.length < 20 := by rw [List.length_cons] at hs; omega
    simp only [leafO, Bool.and_eq_true] at h
    simp only [leafB, Bool.and_eq_true, decide_eq_true_eq]
    exact ⟨⟨h.1, hr⟩, h.2⟩
mutual
theorem fine_of : ∀ f : Flt, fineO f = true → slim f = true → fine f = true
  | .mk k n o vs l, h, hs => by
    simp only [slim, Bool.and_eq_true, decide_eq_true_eq] at hs
    unfold fineO at h
    unfold fine
    by_cases hk : k = 4 ∨ k = 5 ∨ k = 6
    · rw [if_pos hk, Bool.and_eq_true] at h ⊢
      exact ⟨leaf_of h.1 hs.1, h.2⟩
    · rw [if_neg hk, Bool.and_eq_true] at h ⊢
      exact ⟨h.1, fineL_of k l h.2 hs.2⟩
theorem fineL_of (k : Int) : ∀ l : List Flt, fineOL k l = true → slimL l = true → fineL k l = true
  | [], _, _ => rfl
  | p :: r, h, hs => by
    simp only [slimL, Bool.and_eq_true] at hs
    simp only [fineOL, Bool.and_eq_true] at h
    simp only [fineL, Bool.and_eq_true]
    exact ⟨⟨fine_of p h.1.1 hs.1, h.1.2⟩, fineL_of k r h.2 hs.2⟩
end
mutual
theorem of_fine : ∀ f : Flt, fine f = true → fineO f = true ∧ slim f = true
  | .mk k n o vs l, h => by
    unfold fine at h
    unfold fineO slim
    by_cases hk : k = 4 ∨ k = 5 ∨ k = 6
    · rw [if_pos hk, Bool.and_eq_true] at h
      rw [if_pos hk]
      match vs, h with
      | v :: r, h =>
        simp only [leafB, Bool.and_eq_true, decide_eq_true_eq] at h
        have hl : l = [] := by simpa using h.2
        subst hl
        simp only [leafO, Bool.and_eq_true, slimL, decide_eq_true_eq, List.length_cons]
        exact ⟨⟨⟨h.1.1.1, h.1.2⟩, h.2⟩, by omega, trivial⟩
    · rw [if_neg hk, Bool.and_eq_true] at h
      rw [if_neg hk]
      have hv : vs = [] := by have h1 := h.1; simp only [Bool.and_eq_true] at h1; simpa using h1.1.2
      have := of_fineL k l h.2
      subst hv
      have h1 := h.1
      simp only [Bool.and_eq_true, decide_eq_true_eq] at h1 ⊢
      exact ⟨⟨h1, this.1⟩, by simp, this.2⟩
theorem of_fineL (k : Int) : ∀ l : List Flt, fineL k l = true → fineOL k l = true ∧ slimL l = true
  | [], _ => ⟨rfl, rfl⟩
  | p :: r, h => by
    simp only [fineL, Bool.and_eq_true] at h
    have h1 := of_fine p h.1.1
    have h2 := of_fineL k r h.2
    simp only [fineOL, slimL, Bool.and_eq_true]
    exact ⟨⟨⟨h1.1, h.1.2⟩, h2.1⟩, h1.2, h2.2⟩
end

/-- A good token: a name is one, a text may be. -/
def Okay (ts : List Tc) : Prop := ∀ t ∈ ts, (t.kind = 1 → nameB t.str = true) ∧ (t.kind = 4 → plainB t.str = true)
theorem Okay.left {ts r : List Tc} {n : Nat} (h : Okay ts) (hl : Left ts r n) : Okay r := by
  obtain ⟨⟨j, rfl⟩, _⟩ := hl
  exact fun t ht => h t (List.mem_of_mem_drop ht)
theorem val_good {ts r : List Tc} {v : Att} (ho : Okay ts) (h : valP ts = some (v, r)) : valB v = true := by
  match ts, ho, h with
  | t :: u, ho, h =>
    have ht := ho t (List.mem_cons_self ..)
    simp only [valP] at h
    by_cases h4 : t.kind = 4
    · rw [if_pos h4] at h; cases h; simp [valB, ht.2 h4]
    · rw [if_neg h4] at h
      by_cases h3 : t.kind = 3
      · rw [if_pos h3] at h; cases h; simp [valB]
      · rw [if_neg h3] at h; cases h
theorem vals_good {tx : Bool} : ∀ {n : Nat} {ts r : List Tc} {vs : List Att}, Okay ts → valsP tx n ts = some (vs, r) → vs.all (fun u => valB u && u.text == tx) = true
  | 0, _, _, _, _, h => by cases h
  | n + 1, ts, r, vs, ho, h => by
    simp only [valsP] at h
    cases h1 : takes sComma ts with
    | some r1 =>
      simp only [h1] at h
      have o1 := ho.left (takes_left h1)
      cases h2 : valP r1 with
      | none => simp [h2] at h
      | some x =>
        obtain ⟨v, r2⟩ := x
        simp only [h2] at h
        by_cases ht : v.text = tx
        · rw [if_pos ht] at h
          cases h3 : valsP tx n r2 with
          | none => simp [h3] at h
          | some x =>
            obtain ⟨us, r3⟩ := x
            simp only [h3] at h
            cases h
            have ih := vals_good (o1.left (val_left h2)) h3
            simp only [List.all_cons, Bool.and_eq_true, beq_iff_eq]
            exact ⟨⟨val_good o1 h2, ht⟩, ih⟩
        · rw [if_neg ht] at h; cases h
    | none =>
      simp only [h1] at h
      cases h2 : takes sShut ts with
      | none => simp [h2] at h
      | some r1 =>
        simp only [h2] at h
        cases h
        rfl
theorem leaf_good {ts r : List Tc} {f : Flt} (ho : Okay ts) (h : leafP ts = some (f, r)) : fineO f = true := by
  match ts, ho, h with
  | t :: u, ho, h =>
    have ht := ho t (List.mem_cons_self ..)
    have ou : Okay u := fun x hx => ho x (List.mem_cons_of_mem _ hx)
    simp only [leafP] at h
    by_cases hk : t.kind = 1
    · rw [if_pos hk] at h
      have hn := ht.1 hk
      cases h1 : takes wIn u with
      | some r1 =>
        simp only [h1] at h
        have o1 := ou.left (takes_left h1)
        cases h2 : takes sOpen r1 with
        | none => simp [h2] at h
        | some r2 =>
          simp only [h2] at h
          have o2 := o1.left (takes_left h2)
          cases h3 : valP r2 with
          | none => simp [h3] at h
          | some x =>
            obtain ⟨v, r3⟩ := x
            simp only [h3] at h
            cases h4 : valsP v.text (r3.length + 1) r3 with
            | none => simp [h4] at h
            | some x =>
              obtain ⟨vs, r4⟩ := x
              simp only [h4] at h
              cases h
              have hv := val_good o2 h3
              have hs := vals_good (o2.left (val_left h3)) h4
              simp [fineO, leafO, hn, hv]
              simpa using hs
      | none =>
        simp only [h1] at h
        cases h2 : takes sPre u with
        | some r1 =>
          simp only [h2] at h
          have o1 := ou.left (takes_left h2)
          cases h3 : valP r1 with
          | none => simp [h3] at h
          | some x =>
            obtain ⟨v, r2⟩ := x
            simp only [h3] at h
            by_cases hx : v.text = true
            · rw [if_pos hx] at h
              cases h
              have hv := val_good o1 h3
              simp [fineO, leafO, hn, hv, hx]
            · rw [if_neg hx] at h; cases h
        | none =>
          simp only [h2] at h
          match u, ou, h with
          | o :: r1, ou, h =>
            simp only at h
            by_cases hc : o.kind = 5 ∧ opB o.str = true
            · rw [if_pos hc] at h
              cases h3 : valP r1 with
              | none => simp [h3] at h
              | some x =>
                obtain ⟨v, r2⟩ := x
                simp only [h3] at h
                cases h
                have hv := val_good (fun x hx => ou x (List.mem_cons_of_mem _ hx)) h3
                simp [fineO, leafO, hn, hv, hc.2]
            · rw [if_neg hc] at h; cases h
    · rw [if_neg hk] at h; cases h

/-! ### Chains -/
theorem fineOL_app {k : Int} : ∀ l m : List Flt, fineOL k (l ++ m) = (fineOL k l && fineOL k m)
  | [], m => by simp [fineOL]
  | p :: r, m => by simp only [List.cons_append, fineOL, fineOL_app r m, Bool.and_assoc]
theorem add_good {k : Int} (hk : k = 1 ∨ k = 2) {l : List Flt} {x : Flt} (hl : fineOL k l = true) (hx : fineO x = true) :
    ∃ m, add (.mk k [] [] [] l) x = .mk k [] [] [] m ∧ fineOL k m = true ∧ l.length + 1 ≤ m.length := by
  obtain ⟨k2, n2, o2, v2, l2⟩ := x
  by_cases hc : k2 = k
  · subst hc
    unfold fineO at hx
    rw [if_neg (by omega), if_pos hk] at hx
    simp only [Bool.and_eq_true, decide_eq_true_eq] at hx
    refine ⟨l ++ l2, by simp [add, Flt.kind, Flt.parts, Flt.name, Flt.op, Flt.vals], by rw [fineOL_app, hl, hx.2]; rfl, by simp; omega⟩
  · refine ⟨l ++ [.mk k2 n2 o2 v2 l2], add_part (x := .mk k2 n2 o2 v2 l2) (show (Flt.mk k2 n2 o2 v2 l2).kind ≠ k from hc), ?_, by simp⟩
    rw [fineOL_app, hl]
    simp only [fineOL, hx, Bool.true_and, Bool.and_true, Bool.or_eq_true, Bool.not_eq_true', decide_eq_false_iff_not]
    exact Or.inr hc
def Good (sub : List Tc → Option (Flt × List Tc)) : Prop := ∀ ts f r, Okay ts → sub ts = some (f, r) → fineO f = true
theorem tail_good {w : List UInt8} {k : Int} (hk : k = 1 ∨ k = 2) {sub : List Tc → Option (Flt × List Tc)} (hs : Con sub) (hg : Good sub) :
    ∀ {n : Nat} {l : List Flt} {f : Flt} {ts r : List Tc}, Okay ts → fineOL k l = true → tailP w sub n (.mk k [] [] [] l) ts = some (f, r) →
      ∃ m, f = .mk k [] [] [] m ∧ fineOL k m = true ∧ l.length ≤ m.length ∧ (takes w ts ≠ none → l.length + 1 ≤ m.length)
  | 0, _, _, _, _, _, _, h => by cases h
  | n + 1, l, f, ts, r, ho, hl, h => by
    simp only [tailP] at h
    cases h1 : takes w ts with
    | none => simp only [h1] at h; cases h; exact ⟨l, rfl, hl, Nat.le_refl _, fun h => absurd rfl h⟩
    | some r1 =>
      simp only [h1] at h
      have o1 := ho.left (takes_left h1)
      cases h2 : sub r1 with
      | none => simp [h2] at h
      | some x =>
        obtain ⟨y, r2⟩ := x
        simp only [h2] at h
        obtain ⟨m, e, hm, hn⟩ := add_good hk hl (hg _ _ _ o1 h2)
        rw [e] at h
        obtain ⟨q, e2, hq, hq1, _⟩ := tail_good hk hs hg (o1.left (hs _ _ _ h2)) hm h
        exact ⟨q, e2, hq, by omega, fun _ => by omega⟩
theorem chain_good {w : List UInt8} {k : Int} (hk : k = 1 ∨ k = 2) {sub : List Tc → Option (Flt × List Tc)} (hs : Con sub) (hg : Good sub) : Good (chainP w k sub) := fun ts f r ho h => by
  simp only [chainP] at h
  cases h1 : sub ts with
  | none => simp [h1] at h
  | some x =>
    obtain ⟨x, r1⟩ := x
    simp only [h1] at h
    have hx := hg _ _ _ ho h1
    cases h2 : takes w r1 with
    | none => simp only [h2] at h; cases h; exact hx
    | some r2 =>
      simp only [h2] at h
      obtain ⟨m, e, hm, hn⟩ := add_good hk (l := []) rfl hx
      rw [e] at h
      obtain ⟨q, e2, hq, _, hq2⟩ := tail_good hk hs hg (ho.left (hs _ _ _ h1)) hm h
      have h3 := hq2 (by rw [h2]; simp)
      have h4 : 2 ≤ q.length := by simp at hn; omega
      rw [e2]
      unfold fineO
      rw [if_neg (by omega), if_pos hk, hq]
      simp [h4]
theorem not_good : ∀ n : Nat, Good (notP n)
  | 0 => fun ts f r _ h => by cases h
  | n + 1 => fun ts f r ho h => by
    have ih := not_good n
    simp only [notP] at h
    cases h1 : takes wNot ts with
    | some r1 =>
      simp only [h1] at h
      cases h2 : notP n r1 with
      | none => simp [h2] at h
      | some x =>
        obtain ⟨x, r2⟩ := x
        simp only [h2] at h
        cases h
        have hx := ih _ _ _ (ho.left (takes_left h1)) h2
        simp [fineO, fineOL, hx]
    | none =>
      simp only [h1] at h
      cases h2 : takes sOpen ts with
      | some r1 =>
        simp only [h2] at h
        cases h3 : chainP wOr 2 (chainP wAnd 1 (notP n)) r1 with
        | none => simp [h3] at h
        | some x =>
          obtain ⟨x, r2⟩ := x
          simp only [h3] at h
          cases h4 : takes sShut r2 with
          | none => simp [h4] at h
          | some r3 =>
            simp only [h4] at h
            cases h
            exact chain_good (Or.inr rfl) (chain_con (not_con n)) (chain_good (Or.inl rfl) (not_con n) ih) _ _ _ (ho.left (takes_left h2)) h3
      | none =>
        simp only [h2] at h
        cases h3 : takes wTrue ts with
        | some r1 =>
          simp only [h3] at h
          cases h
          simp [fineO, fineOL]
        | none =>
          simp only [h3] at h
          exact leaf_good ho h
theorem or_good (n : Nat) : Good (orP n) := chain_good (Or.inr rfl) (chain_con (not_con n)) (chain_good (Or.inl rfl) (not_con n) (not_good n))
end Go.Proofs.YtmfkpoojfpepaaaGreatDoor.Fl
/-
  Plain facts on filters: a text's tokens are good, their numbers are int64s, and so are those of what is read. No program here.
-/
namespace Go.Proofs.YtmfkpoojfpepaaaGreatDoor.Fl
open Go.Proofs.YtmfkpoojfpepaaaGreatDoor.Tk
set_option linter.unusedVariables false
set_option linter.unusedSimpArgs false

theorem lo0 : (-9223372036854775808 : Int) ≤ 0 := (by decide)
theorem hi0 : (0 : Int) ≤ 9223372036854775807 := (by decide)
theorem lex_good {l : List UInt8} {x : Lx} (h : lex l = some x) :
    (x.kind = 1 → nameB x.str = true) ∧ (x.kind = 4 → plainB x.str = true) ∧ -9223372036854775808 ≤ x.num ∧ x.num ≤ 9223372036854775807 := by
  have ht := lex_take h (Nat.le_refl _)
  have hz := lex_size h
  match l, h with
  | c :: r, h =>
    have h0 := h
    rw [lex_cons] at h
    by_cases h1 : low c = true
    · rw [if_pos h1] at h
      unfold nameL at h
      by_cases h2 : run nmB (c :: r) ≤ 20
      · rw [if_pos h2] at h
        have e := (Option.some.inj h).symm
        subst e
        simp only at ht hz
        have hl : ((c :: r).take (run nmB (c :: r))).length = run nmB (c :: r) := by rw [List.length_take]; omega
        refine ⟨fun hk => ?_, fun hk => ?_, lo0, hi0⟩
        · unfold nameB
          rw [ht]
          simp only at hk
          simp [hk, hl]
        · simp only at hk
          split at hk <;> cases hk
      · rw [if_neg h2] at h; cases h
    · rw [if_neg h1] at h
      by_cases h2 : (dig c || c.toNat == 45) = true
      · rw [if_pos h2, numL_cons] at h
        by_cases h3 : (c.toNat == 45) = true
        · rw [if_pos h3] at h
          by_cases h4 : digs r = [] ∨ (digs r).head? = some 48 ∨ 9223372036854775808 < decV (digs r)
          · rw [if_pos h4] at h; cases h
          · rw [if_neg h4] at h
            have e := (Option.some.inj h).symm
            subst e
            have h5 : ¬ 9223372036854775808 < decV (digs r) := fun hx => h4 (Or.inr (Or.inr hx))
            refine ⟨fun hk => (by simp at hk), fun hk => (by simp at hk), ?_, ?_⟩ <;> simp only <;> omega
        · rw [if_neg h3] at h
          by_cases h4 : digs (c :: r) = [] ∨ (1 < (digs (c :: r)).length ∧ (digs (c :: r)).head? = some 48) ∨ 9223372036854775808 ≤ decV (digs (c :: r))
          · rw [if_pos h4] at h; cases h
          · rw [if_neg h4] at h
            have e := (Option.some.inj h).symm
            subst e
            have h5 : ¬ 9223372036854775808 ≤ decV (digs (c :: r)) := fun hx => h4 (Or.inr (Or.inr hx))
            refine ⟨fun hk => (by simp at hk), fun hk => (by simp at hk), ?_, ?_⟩ <;> simp only <;> omega
      · rw [if_neg h2] at h
        by_cases h3 : (c.toNat == 34) = true
        · rw [if_pos h3] at h
          unfold textL at h
          by_cases h4 : run inB r ≤ 200 ∧ r[run inB r]? = some 34
          · rw [if_pos h4] at h
            have e := (Option.some.inj h).symm
            subst e
            refine ⟨fun hk => (by simp at hk), fun _ => ?_, lo0, hi0⟩
            have ha := take_run_all inB r
            unfold plainB
            rw [Bool.and_eq_true, List.all_eq_true, decide_eq_true_eq]
            refine ⟨fun d hd => by simpa [inB, txB] using ha d hd, ?_⟩
            rw [List.length_take]
            omega
          · rw [if_neg h4] at h; cases h
        · rw [if_neg h3] at h
          unfold signL at h
          by_cases h4 : 2 ≤ (c :: r).length ∧ signB ((c :: r).take 2) = true
          · rw [if_pos h4] at h
            have e := (Option.some.inj h).symm
            subst e
            exact ⟨fun hk => (by simp at hk), fun hk => (by simp at hk), lo0, hi0⟩
          · rw [if_neg h4] at h
            by_cases h5 : signB ((c :: r).take 1) = true
            · rw [if_pos h5] at h
              have e := (Option.some.inj h).symm
              subst e
              exact ⟨fun hk => (by simp at hk), fun hk => (by simp at hk), lo0, hi0⟩
            · rw [if_neg h5] at h; cases h
/-- Its numbers are int64s. -/
def Span (ts : List Tc) : Prop := ∀ t ∈ ts, -9223372036854775808 ≤ t.num ∧ t.num ≤ 9223372036854775807
theorem Span.left {ts r : List Tc} {n : Nat} (h : Span ts) (hl : Left ts r n) : Span r := by
  obtain ⟨⟨j, rfl⟩, _⟩ := hl
  exact fun t ht => h t (List.mem_of_mem_drop ht)
theorem cut_good : ∀ (n a : Nat) (l : List UInt8) (ts : List Tok), l.length ≤ n → cutAt a l = some ts → Okay (ts.map core) ∧ Span (ts.map core)
  | n, a, [], ts, _, h => by
    rw [cutAt_nil] at h
    cases h
    exact ⟨fun t ht => by simp at ht, fun t ht => by simp at ht⟩
  | 0, a, c :: r, ts, hn, _ => by simp at hn
  | n + 1, a, c :: r, ts, hn, h => by
    simp only [List.length_cons] at hn
    by_cases hc : c.toNat = 32
    · rw [cutAt_space hc] at h
      exact cut_good n (a + 1) r ts (by omega) h
    · cases hx : lex (c :: r) with
      | none => rw [cutAt_none hc a r hx] at h; cases h
      | some x =>
        rw [cutAt_some hc a r hx] at h
        obtain ⟨us, hu, rfl⟩ := Option.map_eq_some_iff.1 h
        have hz := lex_size hx
        obtain ⟨g1, g2, g3, g4⟩ := lex_good hx
        obtain ⟨i1, i2⟩ := cut_good n (a + x.size) ((c :: r).drop x.size) us (by rw [List.length_drop, List.length_cons]; omega) hu
        refine ⟨fun t ht => ?_, fun t ht => ?_⟩
        · rw [List.map_cons] at ht
          rcases List.mem_cons.1 ht with rfl | ht
          · exact ⟨g1, g2⟩
          · exact i1 t ht
        · rw [List.map_cons] at ht
          rcases List.mem_cons.1 ht with rfl | ht
          · exact ⟨g3, g4⟩
          · exact i2 t ht

/-! ### What is read has int64s -/
theorem val_span {ts r : List Tc} {v : Att} (ho : Span ts) (h : valP ts = some (v, r)) : rngV v := by
  match ts, ho, h with
  | t :: u, ho, h =>
    have ht := ho t (List.mem_cons_self ..)
    simp only [valP] at h
    by_cases h4 : t.kind = 4
    · rw [if_pos h4] at h; cases h; exact ⟨lo0, hi0⟩
    · rw [if_neg h4] at h
      by_cases h3 : t.kind = 3
      · rw [if_pos h3] at h; cases h; exact ht
      · rw [if_neg h3] at h; cases h
theorem vals_span {tx : Bool} : ∀ {n : Nat} {ts r : List Tc} {vs : List Att}, Span ts → valsP tx n ts = some (vs, r) → ∀ u ∈ vs, rngV u
  | 0, _, _, _, _, h => by cases h
  | n + 1, ts, r, vs, ho, h => by
    simp only [valsP] at h
    cases h1 : takes sComma ts with
    | some r1 =>
      simp only [h1] at h
      have o1 := ho.left (takes_left h1)
      cases h2 : valP r1 with
      | none => simp [h2] at h
      | some x =>
        obtain ⟨v, r2⟩ := x
        simp only [h2] at h
        by_cases ht : v.text = tx
        · rw [if_pos ht] at h
          cases h3 : valsP tx n r2 with
          | none => simp [h3] at h
          | some x =>
            obtain ⟨us, r3⟩ := x
            simp only [h3] at h
            cases h
            have ih := vals_span (o1.left (val_left h2)) h3
            intro u hu
            rcases List.mem_cons.1 hu with rfl | hu
            · exact val_span o1 h2
            · exact ih u hu
        · rw [if_neg ht] at h; cases h
    | none =>
      simp only [h1] at h
      cases h2 : takes sShut ts with
      | none => simp [h2] at h
      | some r1 =>
        simp only [h2] at h
        cases h
        exact fun u hu => by simp at hu
theorem leaf_span {ts r : List Tc} {f : Flt} (ho : Span ts) (h : leafP ts = some (f, r)) : rng f := by
  match ts, ho, h with
  | t :: u, ho, h =>
    have ht := ho t (List.mem_cons_self ..)
    have ou : Span u := fun x hx => ho x (List.mem_cons_of_mem _ hx)
    simp only [leafP] at h
    by_cases hk : t.kind = 1
    · rw [if_pos hk] at h
      cases h1 : takes wIn u with
      | some r1 =>
        simp only [h1] at h
        have o1 := ou.left (takes_left h1)
        cases h2 : takes sOpen r1 with
        | none => simp [h2] at h
        | some r2 =>
          simp only [h2] at h
          have o2 := o1.left (takes_left h2)
          cases h3 : valP r2 with
          | none => simp [h3] at h
          | some x =>
            obtain ⟨v, r3⟩ := x
            simp only [h3] at h
            cases h4 : valsP v.text (r3.length + 1) r3 with
            | none => simp [h4] at h
            | some x =>
              obtain ⟨vs, r4⟩ := x
              simp only [h4] at h
              cases h
              have hv := val_span o2 h3
              have hs := vals_span (o2.left (val_left h3)) h4
              refine ⟨fun u hu => ?_, trivial⟩
              rcases List.mem_cons.1 hu with rfl | hu
              · exact hv
              · exact hs u hu
      | none =>
        simp only [h1] at h
        cases h2 : takes sPre u with
        | some r1 =>
          simp only [h2] at h
          have o1 := ou.left (takes_left h2)
          cases h3 : valP r1 with
          | none => simp [h3] at h
          | some x =>
            obtain ⟨v, r2⟩ := x
            simp only [h3] at h
            by_cases hx : v.text = true
            · rw [if_pos hx] at h
              cases h
              have hv := val_span o1 h3
              exact ⟨fun u hu => by rw [List.mem_singleton.1 hu]; exact hv, trivial⟩
            · rw [if_neg hx] at h; cases h
        | none =>
          simp only [h2] at h
          match u, ou, h with
          | o :: r1, ou, h =>
            simp only at h
            by_cases hc : o.kind = 5 ∧ opB o.str = true
            · rw [if_pos hc] at h
              cases h3 : valP r1 with
              | none => simp [h3] at h
              | some x =>
                obtain ⟨v, r2⟩ := x
                simp only [h3] at h
                cases h
                have hv := val_span (fun x hx => ou x (List.mem_cons_of_mem _ hx)) h3
                exact ⟨fun u hu => by rw [List.mem_singleton.1 hu]; exact hv, trivial⟩
            · rw [if_neg hc] at h; cases h
    · rw [if_neg hk] at h; cases h


theorem rngL_app : ∀ {l m : List Flt}, rngL l → rngL m → rngL (l ++ m)
  | [], m, _, h => h
  | p :: r, m, h, g => ⟨h.1, rngL_app h.2 g⟩
theorem rng_parts : ∀ {f : Flt}, rng f → rngL f.parts
  | .mk _ _ _ _ _, h => h.2
theorem rng_vals : ∀ {f : Flt}, rng f → ∀ v ∈ f.vals, rngV v
  | .mk _ _ _ _ _, h => h.1
theorem add_span {f x : Flt} (hl : rng f) (hx : rng x) : rng (add f x) := by
  unfold add
  split
  · exact ⟨rng_vals hl, rngL_app (rng_parts hl) (rng_parts hx)⟩
  · exact ⟨rng_vals hl, rngL_app (rng_parts hl) ⟨hx, trivial⟩⟩
def Spans (sub : List Tc → Option (Flt × List Tc)) : Prop := ∀ ts f r, Span ts → sub ts = some (f, r) → rng f
theorem tail_span {w : List UInt8} {sub : List Tc → Option (Flt × List Tc)} (hs : Con sub) (hg : Spans sub) :
    ∀ {n : Nat} {acc : Flt} {f : Flt} {ts r : List Tc}, Span ts → rng acc → tailP w sub n acc ts = some (f, r) → rng f
  | 0, _, _, _, _, _, _, h => by cases h
  | n + 1, acc, f, ts, r, ho, hl, h => by
    simp only [tailP] at h
    cases h1 : takes w ts with
    | none => simp only [h1] at h; cases h; exact hl
    | some r1 =>
      simp only [h1] at h
      have o1 := ho.left (takes_left h1)
      cases h2 : sub r1 with
      | none => simp [h2] at h
      | some x =>
        obtain ⟨y, r2⟩ := x
        simp only [h2] at h
        exact tail_span hs hg (o1.left (hs _ _ _ h2)) (add_span hl (hg _ _ _ o1 h2)) h
theorem chain_span {w : List UInt8} {k : Int} {sub : List Tc → Option (Flt × List Tc)} (hs : Con sub) (hg : Spans sub) : Spans (chainP w k sub) := fun ts f r ho h => by
  simp only [chainP] at h
  cases h1 : sub ts with
  | none => simp [h1] at h
  | some x =>
    obtain ⟨x, r1⟩ := x
    simp only [h1] at h
    have hx := hg _ _ _ ho h1
    cases h2 : takes w r1 with
    | none => simp only [h2] at h; cases h; exact hx
    | some r2 =>
      simp only [h2] at h
      exact tail_span hs hg (ho.left (hs _ _ _ h1)) (add_span (f := .mk k [] [] [] []) ⟨fun v hv => by simp at hv, trivial⟩ hx) h
theorem not_span : ∀ n : Nat, Spans (notP n)
  | 0 => fun ts f r _ h => by cases h
  | n + 1 => fun ts f r ho h => by
    have ih := not_span n
    simp only [notP] at h
    cases h1 : takes wNot ts with
    | some r1 =>
      simp only [h1] at h
      cases h2 : notP n r1 with
      | none => simp [h2] at h
      | some x =>
        obtain ⟨x, r2⟩ := x
        simp only [h2] at h
        cases h
        have hx := ih _ _ _ (ho.left (takes_left h1)) h2
        exact ⟨fun v hv => by simp at hv, hx, trivial⟩
    | none =>
      simp only [h1] at h
      cases h2 : takes sOpen ts with
      | some r1 =>
        simp only [h2] at h
        cases h3 : chainP wOr 2 (chainP wAnd 1 (notP n)) r1 with
        | none => simp [h3] at h
        | some x =>
          obtain ⟨x, r2⟩ := x
          simp only [h3] at h
          cases h4 : takes sShut r2 with
          | none => simp [h4] at h
          | some r3 =>
            simp only [h4] at h
            cases h
            exact chain_span (chain_con (not_con n)) (chain_span (not_con n) ih) _ _ _ (ho.left (takes_left h2)) h3
      | none =>
        simp only [h2] at h
        cases h3 : takes wTrue ts with
        | some r1 =>
          simp only [h3] at h
          cases h
          exact ⟨fun v hv => by simp at hv, trivial⟩
        | none =>
          simp only [h3] at h
          exact leaf_span ho h
theorem or_span (n : Nat) : Spans (orP n) := chain_span (chain_con (not_con n)) (chain_span (not_con n) (not_span n))

/-- What is read of a text, if nowhere it has more than twenty values, has a text that is read as it. -/
theorem read_good {l : List UInt8} {ts : List Tok} (h : cutAt 0 l = some ts) {n : Nat} {f : Flt} {r : List Tc} (hr : orP n (ts.map core) = some (f, r)) :
    fineO f = true ∧ rng f := by
  obtain ⟨h1, h2⟩ := cut_good _ 0 l ts (Nat.le_refl _) h
  exact ⟨or_good n _ _ _ h1 hr, or_span n _ _ _ h2 hr⟩
end Go.Proofs.YtmfkpoojfpepaaaGreatDoor.Fl
/-
  Contracts of the smallest functions of package token and of the document's answer: what sort a byte is of, whether a row is a word or a sign, that which is told where there is no token. Memory that was there is left as it was.
-/
namespace Go.Proofs.YtmfkpoojfpepaaaGreatDoor.Tk
open Go.RowKit
set_option linter.unusedVariables false
set_option linter.unusedSimpArgs false

theorem byteI (c : UInt8) (a b : Nat) : (decide (a ≤ c.toNat) && decide (c.toNat ≤ b)) = (decide ((a : Int) ≤ (c.toNat : Nat)) && decide (((c.toNat : Nat) : Int) ≤ (b : Int))) := by
  congr 1 <;> exact decide_eq_decide.2 (by omega)
theorem lowI (c : UInt8) : low c = (decide ((97 : Int) ≤ (c.toNat : Nat)) && decide (((c.toNat : Nat) : Int) ≤ 122)) := byteI c 97 122
theorem digI (c : UInt8) : dig c = (decide ((48 : Int) ≤ (c.toNat : Nat)) && decide (((c.toNat : Nat) : Int) ≤ 57)) := byteI c 48 57
theorem txBI (c : UInt8) : txB c = (decide ((32 : Int) ≤ (c.toNat : Nat)) && decide (((c.toNat : Nat) : Int) ≤ 126)) := byteI c 32 126

theorem letter_any (c : UInt8) (w : World) : Calls Tryz.prog 90 #[.int .u8 (c.toNat : Nat)] w fun e w' => e = .returned (.bool (low c)) ∧ w = w' := by
  go_enter Tryz.func90, Tryz.ntmps90
  go_wp2
  · rename_i h; go_ret; exact ⟨by rw [lowI, decide_eq_true h, Bool.true_and]; rfl, rfl⟩
  · rename_i h; go_ret; exact ⟨by rw [lowI, decide_eq_false (Int.not_le.2 h), Bool.false_and]; rfl, rfl⟩
theorem digit_any (c : UInt8) (w : World) : Calls Tryz.prog 92 #[.int .u8 (c.toNat : Nat)] w fun e w' => e = .returned (.bool (dig c)) ∧ w = w' := by
  go_enter Tryz.func92, Tryz.ntmps92
  go_wp2
  · rename_i h; go_ret; exact ⟨by rw [digI, decide_eq_true h, Bool.true_and]; rfl, rfl⟩
  · rename_i h; go_ret; exact ⟨by rw [digI, decide_eq_false (Int.not_le.2 h), Bool.false_and]; rfl, rfl⟩
theorem textByte_any (c : UInt8) (w : World) : Calls Tryz.prog 103 #[.int .u8 (c.toNat : Nat)] w fun e w' => e = .returned (.bool (txB c)) ∧ w = w' := by
  go_enter Tryz.func103, Tryz.ntmps103
  go_wp2
  · rename_i h; go_ret; exact ⟨by rw [txBI, decide_eq_true h, Bool.true_and]; rfl, rfl⟩
  · rename_i h; go_ret; exact ⟨by rw [txBI, decide_eq_false (Int.not_le.2 h), Bool.false_and]; rfl, rfl⟩
theorem refLow_any (c : UInt8) (w : World) : Calls Tryz.prog 75 #[.int .u8 (c.toNat : Nat)] w fun e w' => e = .returned (.bool (low c)) ∧ w = w' := by
  go_enter Tryz.func75, Tryz.ntmps75
  go_wp2
  · rename_i h; go_ret; exact ⟨by rw [lowI, decide_eq_true h, Bool.true_and]; rfl, rfl⟩
  · rename_i h; go_ret; exact ⟨by rw [lowI, decide_eq_false (Int.not_le.2 h), Bool.false_and]; rfl, rfl⟩
theorem refDigit_any (c : UInt8) (w : World) : Calls Tryz.prog 76 #[.int .u8 (c.toNat : Nat)] w fun e w' => e = .returned (.bool (dig c)) ∧ w = w' := by
  go_enter Tryz.func76, Tryz.ntmps76
  go_wp2
  · rename_i h; go_ret; exact ⟨by rw [digI, decide_eq_true h, Bool.true_and]; rfl, rfl⟩
  · rename_i h; go_ret; exact ⟨by rw [digI, decide_eq_false (Int.not_le.2 h), Bool.false_and]; rfl, rfl⟩
theorem nameByte_any (c : UInt8) (w : World) : Calls Tryz.prog 97 #[.int .u8 (c.toNat : Nat)] w fun e w' => e = .returned (.bool (nmB c)) ∧ w = w' := by
  obtain ⟨b, hb⟩ : ∃ b, low c = b := ⟨_, rfl⟩
  have HN : nmB c = (b || dig c) := by rw [nmB, hb]
  rw [HN]
  have HB := Lib.hid hb
  clear HN
  cases b
  · clear hb
    go_enter Tryz.func97, Tryz.ntmps97
    go_wp2_with fail
    refine (letter_any c _).mono ?_
    rintro e w1 ⟨rfl, rfl⟩
    rw [HB.out]
    go_wp2_with fail
    refine (digit_any c _).mono ?_
    rintro e w1 ⟨rfl, rfl⟩
    go_wp2_with fail
    go_ret
    exact ⟨by simp, rfl⟩
  · clear hb
    go_enter Tryz.func97, Tryz.ntmps97
    go_wp2_with fail
    refine (letter_any c _).mono ?_
    rintro e w1 ⟨rfl, rfl⟩
    rw [HB.out]
    go_wp2_with fail
    go_ret
    exact ⟨by simp, rfl⟩

/-- No token. -/
def noTok : Value := .tuple #[.agg #[.int .i64 0, .int .i64 0, .int .i64 0, .string ⟨#[]⟩], .int .i64 0, .iface 44 (.int .i64 2)]
theorem amiss_any (w : World) : Calls Tryz.prog 98 #[] w fun e w' => e = .returned noTok ∧ Below w.heap.size w w' := by
  go_enter Tryz.func98, Tryz.ntmps98
  go_wp2_with fail
  refine bodyPost_ret (v := noTok) (by simp [results, Tryz.results98, go_sem, noTok]) rfl ⟨rfl, ?_⟩
  exact (Below.refl _ _).alloc (Nat.le_refl _) _

set_option maxHeartbeats 1000000 in
theorem word_any (s : ByteArray) (w : World) : Calls Tryz.prog 99 #[.string s] w fun e w' => e = .returned (.bool (wordB s.data.toList)) ∧ w = w' := by
  rw [← Lib.toList_data]
  go_enter Tryz.func99, Tryz.ntmps99
  go_wp2
  all_goals (go_ret; exact ⟨by simp_all [wordB], rfl⟩)
set_option maxHeartbeats 1000000 in
theorem sign_is (s : ByteArray) (w : World) : Calls Tryz.prog 104 #[.string s] w fun e w' => e = .returned (.bool (signB s.data.toList)) ∧ w = w' := by
  rw [← Lib.toList_data]
  go_enter Tryz.func104, Tryz.ntmps104
  go_wp2
  all_goals (go_ret; exact ⟨by simp_all [signB], rfl⟩)
end Go.Proofs.YtmfkpoojfpepaaaGreatDoor.Tk
namespace Go.Proofs.YtmfkpoojfpepaaaGreatDoor.Tk
open Go.RowKit
set_option linter.unusedVariables false
set_option linter.unusedSimpArgs false

def RowR (p : UInt8 → Bool) (l : List UInt8) (w : World) (vi : Value) (wr : World) : Prop :=
  ∃ k : Nat, k ≤ l.length ∧ vi = .int .i64 k ∧ Hid (∀ (j : Nat) (c : UInt8), j < k → l[j]? = some c → p c = true) ∧ w = wr
theorem row_more {p : UInt8 → Bool} {l : List UInt8} {k : Nat} {c : UInt8} (h : ∀ (j : Nat) (c : UInt8), j < k → l[j]? = some c → p c = true) (hc : l[k]? = some c) (hp : p c = true) : ∀ (j : Nat) (c : UInt8), j < k + 1 → l[j]? = some c → p c = true := by
  intro j d hj hd
  by_cases e : j = k
  · subst e
    rw [hc] at hd
    cases hd
    exact hp
  · exact h j d (by omega) hd


set_option maxHeartbeats 1000000 in
theorem rowName_any (s : ByteArray) (hs : s.size ≤ 1048576) (w : World) : Calls Tryz.prog 96 #[.string s, .func (.func 97) #[] #[]] w fun e w' => e = .returned (.int .i64 (run nmB s.data.toList : Nat)) ∧ w = w' := by
  have hsz := Lib.hid (Lib.size_eq s)
  go_enter Tryz.func96, Tryz.ntmps96
  go_wp2_with fail
  go_loopw [8] (fun vi wr => RowR nmB s.data.toList w vi wr) (fun vi _ => s.size - (intOf vi).toNat)
  case atStart => exact ⟨0, Nat.zero_le _, rfl, Lib.hid fun j c h => absurd h (Nat.not_lt_zero _), rfl⟩
  case round =>
    obtain ⟨k, hk, rfl, hall, rfl⟩ := hrel
    have HK := Lib.hid hk
    by_cases hlt : k < s.size
    · have hlz : (k : Int) < (s.size : Int) := by omega
      obtain ⟨c, hc⟩ : ∃ c, s[k] = c := ⟨_, rfl⟩
      have HC := Lib.hid (show s.data.toList[k]? = some c by rw [← hc]; exact Lib.data_getElem? s k hlt)
      obtain ⟨b, hb⟩ : ∃ b, nmB c = b := ⟨_, rfl⟩
      have HB := Lib.hid hb
      clear hb hk
      go_wp2_with fail
      refine (nameByte_any c _).mono ?_
      rintro e w1 ⟨rfl, rfl⟩
      rw [HB.out]
      cases b
      · go_wp2_with fail
        go_ret
        have := run_eq nmB s.data.toList k HK.out hall.out (fun d hd => by have e := HC.out.symm.trans hd; cases e; exact HB.out)
        exact ⟨by rw [this]; rfl, rfl⟩
      · go_wp2_with fail
        go_roundw
        case rel => exact ⟨k + 1, by have := hsz.out; omega, by go_num, Lib.hid (row_more hall.out HC.out HB.out), rfl⟩
        case measure => simp [intOf]; omega
    · have hlz : ¬ (k : Int) < (s.size : Int) := by omega
      have hkk : k = s.size := by have := hsz.out; omega
      subst hkk
      have HT := Lib.hid (run_eq nmB s.data.toList s.size (by rw [hsz.out]; exact Nat.le_refl _) hall.out (fun d hd => by rw [hsz.out] at hd; simp at hd))
      clear hk
      go_wp2_with fail
      go_ret
      exact ⟨by rw [HT.out]; rfl, rfl⟩

set_option maxHeartbeats 1000000 in
theorem rowDigit_any (s : ByteArray) (hs : s.size ≤ 1048576) (w : World) : Calls Tryz.prog 96 #[.string s, .func (.func 92) #[] #[]] w fun e w' => e = .returned (.int .i64 (run dig s.data.toList : Nat)) ∧ w = w' := by
  have hsz := Lib.hid (Lib.size_eq s)
  go_enter Tryz.func96, Tryz.ntmps96
  go_wp2_with fail
  go_loopw [8] (fun vi wr => RowR dig s.data.toList w vi wr) (fun vi _ => s.size - (intOf vi).toNat)
  case atStart => exact ⟨0, Nat.zero_le _, rfl, Lib.hid fun j c h => absurd h (Nat.not_lt_zero _), rfl⟩
  case round =>
    obtain ⟨k, hk, rfl, hall, rfl⟩ := hrel
    have HK := Lib.hid hk
    by_cases hlt : k < s.size
    · have hlz : (k : Int) < (s.size : Int) := by omega
      obtain ⟨c, hc⟩ : ∃ c, s[k] = c := ⟨_, rfl⟩
      have HC := Lib.hid (show s.data.toList[k]? = some c by rw [← hc]; exact Lib.data_getElem? s k hlt)
      obtain ⟨b, hb⟩ : ∃ b, dig c = b := ⟨_, rfl⟩
      have HB := Lib.hid hb
      clear hb hk
      go_wp2_with fail
      refine (digit_any c _).mono ?_
      rintro e w1 ⟨rfl, rfl⟩
      rw [HB.out]
      cases b
      · go_wp2_with fail
        go_ret
        have := run_eq dig s.data.toList k HK.out hall.out (fun d hd => by have e := HC.out.symm.trans hd; cases e; exact HB.out)
        exact ⟨by rw [this]; rfl, rfl⟩
      · go_wp2_with fail
        go_roundw
        case rel => exact ⟨k + 1, by have := hsz.out; omega, by go_num, Lib.hid (row_more hall.out HC.out HB.out), rfl⟩
        case measure => simp [intOf]; omega
    · have hlz : ¬ (k : Int) < (s.size : Int) := by omega
      have hkk : k = s.size := by have := hsz.out; omega
      subst hkk
      have HT := Lib.hid (run_eq dig s.data.toList s.size (by rw [hsz.out]; exact Nat.le_refl _) hall.out (fun d hd => by rw [hsz.out] at hd; simp at hd))
      clear hk
      go_wp2_with fail
      go_ret
      exact ⟨by rw [HT.out]; rfl, rfl⟩

set_option maxHeartbeats 1000000 in
theorem rowText_any (s : ByteArray) (hs : s.size ≤ 1048576) (w : World) : Calls Tryz.prog 96 #[.string s, .func (.func 103) #[] #[]] w fun e w' => e = .returned (.int .i64 (run txB s.data.toList : Nat)) ∧ w = w' := by
  have hsz := Lib.hid (Lib.size_eq s)
  go_enter Tryz.func96, Tryz.ntmps96
  go_wp2_with fail
  go_loopw [8] (fun vi wr => RowR txB s.data.toList w vi wr) (fun vi _ => s.size - (intOf vi).toNat)
  case atStart => exact ⟨0, Nat.zero_le _, rfl, Lib.hid fun j c h => absurd h (Nat.not_lt_zero _), rfl⟩
  case round =>
    obtain ⟨k, hk, rfl, hall, rfl⟩ := hrel
    have HK := Lib.hid hk
    by_cases hlt : k < s.size
    · have hlz : (k : Int) < (s.size : Int) := by omega
      obtain ⟨c, hc⟩ : ∃ c, s[k] = c := ⟨_, rfl⟩
      have HC := Lib.hid (show s.data.toList[k]? = some c by rw [← hc]; exact Lib.data_getElem? s k hlt)
      obtain ⟨b, hb⟩ : ∃ b, txB c = b := ⟨_, rfl⟩
      have HB := Lib.hid hb
      clear hb hk
      go_wp2_with fail
      refine (textByte_any c _).mono ?_
      rintro e w1 ⟨rfl, rfl⟩
      rw [HB.out]
      cases b
      · go_wp2_with fail
        go_ret
        have := run_eq txB s.data.toList k HK.out hall.out (fun d hd => by have e := HC.out.symm.trans hd; cases e; exact HB.out)
        exact ⟨by rw [this]; rfl, rfl⟩
      · go_wp2_with fail
        go_roundw
        case rel => exact ⟨k + 1, by have := hsz.out; omega, by go_num, Lib.hid (row_more hall.out HC.out HB.out), rfl⟩
        case measure => simp [intOf]; omega
    · have hlz : ¬ (k : Int) < (s.size : Int) := by omega
      have hkk : k = s.size := by have := hsz.out; omega
      subst hkk
      have HT := Lib.hid (run_eq txB s.data.toList s.size (by rw [hsz.out]; exact Nat.le_refl _) hall.out (fun d hd => by rw [hsz.out] at hd; simp at hd))
      clear hk
      go_wp2_with fail
      go_ret
      exact ⟨by rw [HT.out]; rfl, rfl⟩
end Go.Proofs.YtmfkpoojfpepaaaGreatDoor.Tk
