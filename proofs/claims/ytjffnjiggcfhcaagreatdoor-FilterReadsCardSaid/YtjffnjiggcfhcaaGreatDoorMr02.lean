/-
  Contract of leafy of the document's parser: what begins with a name. Memory that was there is left as it was, but for the parser's own block.
-/
import Derived.Test.YtjffnjiggcfhcaaGreatDoorMr01
import Derived.Test.YtjffnjiggcfhcaaGreatDoorMt11
import Derived.Great.BuildSlice
namespace Go.Proofs.YtjffnjiggcfhcaaGreatDoor.Fl
open Go.RowKit Go.Proofs.YtjffnjiggcfhcaaGreatDoor.Tk
set_option linter.unusedVariables false
set_option linter.unusedSimpArgs false

/-! ### Plain -/
def inU (ts : List Tc) : Option (List Att × List Tc) :=
  match takes sOpen ts with
  | none => none
  | some r2 =>
    match valP r2 with
    | none => none
    | some (v, r3) =>
      match valsP v.text (r3.length + 1) r3 with
      | none => none
      | some (vs, r4) => some (v :: vs, r4)
def preU (n : List UInt8) (ts : List Tc) : Option (Flt × List Tc) :=
  match valP ts with
  | none => none
  | some (v, r2) => if v.text then some (.mk 5 n [] [v] [], r2) else none
def opU (n : List UInt8) (ts : List Tc) : Option (Flt × List Tc) :=
  match ts with
  | [] => none
  | o :: r1 =>
    if o.kind = 5 ∧ opB o.str = true then
      match valP r1 with
      | none => none
      | some (v, r2) => some (.mk 4 n o.str [v] [], r2)
    else none
def asIn (n : List UInt8) (x : Option (List Att × List Tc)) : Option (Flt × List Tc) := x.map fun u => (.mk 6 n [] u.1 [], u.2)
def leafU (n : List UInt8) (ts : List Tc) : Option (Flt × List Tc) :=
  match takes wIn ts with
  | some r1 => asIn n (inU r1)
  | none =>
    match takes sPre ts with
    | some r1 => preU n r1
    | none => opU n ts
theorem leafP_cons (t : Tc) (r : List Tc) : leafP (t :: r) = if t.kind = 1 then leafU t.str r else none := by
  unfold leafP leafU inU preU opU asIn
  by_cases hk : t.kind = 1
  · simp only [if_pos hk]
    cases h1 : takes wIn r with
    | some r1 =>
      simp only
      cases h2 : takes sOpen r1 with
      | none => rfl
      | some r2 =>
        simp only
        cases h3 : valP r2 with
        | none => rfl
        | some y =>
          obtain ⟨v, r3⟩ := y
          simp only
          cases h4 : valsP v.text (r3.length + 1) r3 with
          | none => rfl
          | some u => rfl
    | none =>
      simp only
      rfl
  · simp only [if_neg hk]
def inP (tx : Bool) (vs : List Att) (x : Option (List Tc)) : Option (List Att × List Tc) := x.bind fun ts => (valsP tx (ts.length + 1) ts).map fun u => (vs ++ u.1, u.2)
theorem vals_fuel' (tx : Bool) (n m : Nat) (ts : List Tc) (h1 : ts.length < n) (h2 : ts.length < m) : valsP tx n ts = valsP tx m ts := by rw [vals_sort, vals_sort, vs_fuel n m ts h1 h2]
theorem inP_comma {tx : Bool} {vs : List Att} {ts r r2 : List Tc} {v : Att} (h1 : takes sComma ts = some r) (h2 : valP r = some (v, r2)) (h3 : v.text = tx) : inP tx vs (some ts) = inP tx (vs ++ [v]) (some r2) := by
  have l1 := takes_len h1
  have l2 := val_len h2
  show (valsP tx (ts.length + 1) ts).map _ = (valsP tx (r2.length + 1) r2).map _
  rw [valsP, h1]
  simp only
  rw [h2]
  simp only [if_pos h3]
  rw [vals_fuel' tx ts.length (r2.length + 1) r2 (by omega) (by omega)]
  cases valsP tx (r2.length + 1) r2 with
  | none => rfl
  | some u => simp
theorem inP_none {tx : Bool} {vs : List Att} {ts r : List Tc} (h1 : takes sComma ts = some r) (h2 : valP r = none) : inP tx vs (some ts) = none := by
  show (valsP tx (ts.length + 1) ts).map _ = none
  rw [valsP, h1]
  simp only
  rw [h2]
  rfl
theorem inP_sort {tx : Bool} {vs : List Att} {ts r r2 : List Tc} {v : Att} (h1 : takes sComma ts = some r) (h2 : valP r = some (v, r2)) (h3 : ¬ v.text = tx) : inP tx vs (some ts) = none := by
  show (valsP tx (ts.length + 1) ts).map _ = none
  rw [valsP, h1]
  simp only
  rw [h2]
  simp only [if_neg h3]
  rfl
theorem inP_shut {tx : Bool} {vs : List Att} {x : Option (List Tc)} (h1 : x.bind (takes sComma) = none) : inP tx vs x = (x.bind (takes sShut)).map fun r => (vs, r) := by
  cases x with
  | none => rfl
  | some ts =>
    have h1 : takes sComma ts = none := h1
    show (valsP tx (ts.length + 1) ts).map _ = (takes sShut ts).map _
    rw [valsP, h1]
    simp only
    cases takes sShut ts with
    | none => rfl
    | some r => simp
/-! ### In memory -/
def lenX (x : Option (List Tok)) : Nat := match x with | some ts => ts.length | none => 0
/-- What a part of the parser tells. -/
def REnd (res : Option (Flt × List Tc)) (n p z : Nat) (L : List Tok) (w w' : World) (e : Ending) : Prop :=
  w.grownBy w' (some p) ∧ ∃ y f a c b d, e = .returned (.agg #[.int .i64 f.kind, bs f.name, bs f.op, .slice a f.vals.length c, .slice b f.parts.length d]) ∧ PS w' p z L y ∧ FltAt w' (fun g => w.heap.size ≤ g ∧ g < w'.heap.size) f a b ∧ sz f ≤ n + 1 ∧ (f.kind = 1 ∨ f.kind = 2 → 0 < f.parts.length) ∧
    ((∃ r, res = some (f, r) ∧ coreX y = some r) ∨ (res = none ∧ y = none))
theorem takes_lenX {s : List UInt8} {x y : Option (List Tok)} (h : coreX y = (coreX x).bind (takes s)) : lenX y ≤ lenX x - 1 ∧ lenX y ≤ lenX x := by
  cases y with
  | none => exact ⟨Nat.zero_le _, Nat.zero_le _⟩
  | some r =>
    cases x with
    | none => cases h
    | some ts =>
      have h : some (r.map core) = takes s (ts.map core) := h
      have := takes_len h.symm
      simp only [List.length_map] at this
      show r.length ≤ ts.length - 1 ∧ r.length ≤ ts.length
      omega
/-- val, in one. -/
def VaU (x : Option (List Tok)) (p z : Nat) (L : List Tok) (w w' : World) (e : Ending) : Prop :=
  w.grownBy w' (some p) ∧ ∃ v y, e = .returned (.agg #[bs v.name, .bool v.text, .int .i64 v.num, bs v.str]) ∧ PS w' p z L y ∧ attOk v ∧ (coreX x).bind valP = (coreX y).map (fun r => (v, r)) ∧ lenX y ≤ lenX x - 1
theorem pvalu_any (L : List Tok) (hl : L.length ≤ 600) (hg : ∀ t ∈ L, TG t) (x : Option (List Tok)) (p z : Nat) (hz : z ≤ p) (w : World) (h : PS w p z L x) :
    Calls Tryz.prog 108 #[.pointer (some ⟨p, 0, none⟩)] w fun e w' => VaU x p z L w w' e := by
  refine (pval_any L hl hg x p z hz w h).mono ?_
  rintro e w' ⟨hg, ⟨t, r, v, rfl, hv, hn, hr, hs, rfl, hps⟩ | ⟨hv, rfl, hps⟩⟩
  · refine ⟨hg, v, some r, rfl, hps, ⟨by rw [hn]; simp, by unfold maxLen; omega, hr⟩, hv, ?_⟩
    show r.length ≤ (t :: r).length - 1
    simp
  · exact ⟨hg, ⟨[], false, 0, []⟩, none, rfl, hps, ⟨by simp, by simp, by constructor <;> simp⟩, hv, Nat.zero_le _⟩
/-- How much a parser has left. -/
def lenP (N : Nat) (W : World) (p : Nat) : Nat := match W.cell? ⟨p, 2, none⟩, W.cell? ⟨p, 1, none⟩ with
  | some (.bool false), some (.int _ i) => 1 + (N - i.toNat)
  | _, _ => 0
def lenQ (x : Option (List Tok)) : Nat := match x with | some ts => 1 + ts.length | none => 0
theorem PS.len {W : World} {p z : Nat} {L : List Tok} {x : Option (List Tok)} (h : PS W p z L x) : lenP L.length W p = lenQ x := by
  obtain ⟨a, cap, at_, h1, c0, c1, c2, hf, ht, hx⟩ := h
  unfold lenP
  rw [c2, c1]
  cases x with
  | none => rfl
  | some ts =>
    rw [hx ts rfl]
    show 1 + (L.length - (at_ : Int).toNat) = 1 + (L.drop at_).length
    rw [List.length_drop]
    rfl
theorem Bx.set0 {W : World} {g : Nat} {x0 x1 x2 x3 x4 : Value} (h : Bx W g x0 x1 x2 x3 x4) (v : Value) : Bx (W.setCell ⟨g, 0, none⟩ v) g v x1 x2 x3 x4 := by
  obtain ⟨⟨h0, h1, h2, h3, h4⟩, hf⟩ := h
  exact ⟨⟨by simp [go_sem, h0], by simp [go_sem, h1], by simp [go_sem, h2], by simp [go_sem, h3], by simp [go_sem, h4]⟩, fun o => by simp [go_sem, hf]⟩
theorem Bx.set2 {W : World} {g : Nat} {x0 x1 x2 x3 x4 : Value} (h : Bx W g x0 x1 x2 x3 x4) (v : Value) : Bx (W.setCell ⟨g, 2, none⟩ v) g x0 x1 v x3 x4 := by
  obtain ⟨⟨h0, h1, h2, h3, h4⟩, hf⟩ := h
  exact ⟨⟨by simp [go_sem, h0], by simp [go_sem, h1], by simp [go_sem, h2], by simp [go_sem, h3], by simp [go_sem, h4]⟩, fun o => by simp [go_sem, hf]⟩
theorem Bx.set3 {W : World} {g : Nat} {x0 x1 x2 x3 x4 : Value} (h : Bx W g x0 x1 x2 x3 x4) (v : Value) : Bx (W.setCell ⟨g, 3, none⟩ v) g x0 x1 x2 v x4 := by
  obtain ⟨⟨h0, h1, h2, h3, h4⟩, hf⟩ := h
  exact ⟨⟨by simp [go_sem, h0], by simp [go_sem, h1], by simp [go_sem, h2], by simp [go_sem, h3], by simp [go_sem, h4]⟩, fun o => by simp [go_sem, hf]⟩
/-- The filter is in block q; it has the values vs so far; the first one lies in block qv. -/
structure LfS (w : World) (p z : Nat) (L : List Tok) (q qv : Nat) (vc : Array Value) (k : Int) (sn so : ByteArray) (W : World) (x : Option (List Tok)) (vl : Value) (vs : List Att) : Prop where
  ps : PS W p z L x
  bx : Bx W q (.int .i64 k) (.string sn) (.string so) vl (.slice none 0 0)
  rw : Rw W w.heap.size #[.int .i64 0, .string ⟨#[]⟩, .string ⟨#[]⟩, .slice none 0 0, .slice none 0 0]
  r4 : R4 47 W qv vc
  gr : w.grownBy W (some p)
  own : W.ownsRow (qv + 1) 47 4 vl vs.length (attsC vs)
  pl : z ≤ p ∧ p < w.heap.size ∧ w.heap.size < q ∧ q < qv ∧ qv < W.heap.size
section
variable {w : World} {p z : Nat} {L : List Tok} {q qv : Nat} {vc : Array Value} {k : Int} {sn so : ByteArray} {W V : World} {x y : Option (List Tok)} {vl : Value} {vs : List Att}
theorem LfS.step (h : LfS w p z L q qv vc k sn so W x vl vs) (hg : W.grownBy V (some p)) (hy : PS V p z L y) : LfS w p z L q qv vc k sn so V y vl vs := by
  obtain ⟨l1, l2, l3, l4, l5⟩ := h.pl
  exact ⟨hy, h.bx.gr hg (by omega), h.rw.gr hg (by omega), h.r4.gr hg (by omega), h.gr.trans hg, own_keep h.own fun g hb => hg.block g (own_lt'' h.own hb).2 (by have := (own_lt'' h.own hb).1; intro e; cases e; omega), l1, l2, l3, l4, Nat.lt_of_lt_of_le l5 hg.size⟩
theorem LfS.alloc (h : LfS w p z L q qv vc k sn so W x vl vs) (o : Obj) : LfS w p z L q qv vc k sn so (W.alloc o) x vl vs :=
  h.step (gr_alloc (gr_refl _ _) o) (h.ps.alloc h.pl.1 o)
theorem LfS.bad (h : LfS w p z L q qv vc k sn so W x vl vs) (b y : Bool) (hy : y = (x.isNone || b)) : LfS w p z L q qv vc k sn so (W.setCell ⟨p, 2, none⟩ (.bool y)) (if b then none else x) vl vs :=
  h.step (gr_set (gr_refl _ _) _) (h.ps.setBad h.pl.1 b y hy)
theorem LfS.app {v1 : Value} {us : List Att} (h : LfS w p z L q qv vc k sn so W x vl vs) (hgrow : W.grownBy V vl.ownBlock) (ho : V.ownsRow (qv + 1) 47 4 v1 us.length (attsC us)) : LfS w p z L q qv vc k sn so (V.setCell ⟨q, 3, none⟩ v1) x v1 us ∧ Bx V q (.int .i64 k) (.string sn) (.string so) vl (.slice none 0 0) := by
  obtain ⟨l1, l2, l3, l4, l5⟩ := h.pl
  have hne : ∀ g, g ≤ qv → some g ≠ vl.ownBlock := fun g hg e => by have := (own_lt'' h.own e.symm).1; omega
  have hk : ∀ g, g ≤ qv → V.heap[g]? = W.heap[g]? := fun g hg => hgrow.block g (by omega) (hne g hg)
  have hs : ∀ g, g ≠ q → (V.setCell ⟨q, 3, none⟩ v1).heap[g]? = V.heap[g]? := fun g hg => Below.heap_setCell _ _ _ _ hg
  have bV : Bx V q (.int .i64 k) (.string sn) (.string so) vl (.slice none 0 0) := h.bx.same (hk q (by omega))
  refine ⟨⟨h.ps.keep ((hs p (by omega)).trans (hk p (by omega))) (fun g hg => (hs g (by omega)).trans (hk g (by omega))), bV.set3 v1, h.rw.same ((hs _ (by omega)).trans (hk _ (by omega))), h.r4.same ((hs _ (by omega)).trans (hk _ (by omega))), ?_, own_keep ho fun g hb => hs g (by have := (own_lt'' ho hb).1; omega), l1, l2, l3, l4, ?_⟩, bV⟩
  · exact gr_new (gr_own h.gr hgrow (fun g hb => by have := (own_lt'' h.own hb).1; omega)) (by omega) v1
  · have := hgrow.size
    simp [World.setCell]
    omega
theorem LfS.fin {a : Option Addr} {n c N : Nat} {res : Option (Flt × List Tc)} (h : LfS w p z L q qv vc k sn so W x (.slice a n c) vs) (hn : n = vs.length) (hok : ∀ v ∈ vs, attOk v) (hl : vs.length ≤ maxLen) (hk : -9223372036854775808 ≤ k ∧ k ≤ 9223372036854775807 ∧ ¬ k = 1 ∧ ¬ k = 2) (hsn : sn.data.toList.length ≤ maxLen) (hso : so.data.toList.length ≤ maxLen)
    (hres : (∃ r, res = some (.mk k sn.data.toList so.data.toList vs [], r) ∧ coreX x = some r) ∨ (res = none ∧ x = none)) :
    REnd res N p z L w (W.setRow w.heap.size #[.int .i64 k, .string sn, .string so, .slice a n c, .slice none 0 0]) (.returned (.agg #[.int .i64 k, .string sn, .string so, .slice a n c, .slice none 0 0])) := by
  obtain ⟨l1, l2, l3, l4, l5⟩ := h.pl
  subst hn
  refine ⟨gr_row h.gr (Nat.le_refl _) _, x, .mk k sn.data.toList so.data.toList vs [], a, c, none, 0, ?_, h.ps.row (by omega) (by omega) _, ?_, by rw [sz, szL]; omega, fun h => absurd h (by simp only [Flt.kind]; omega), hres⟩
  · show _ = Ending.returned (.agg #[.int .i64 k, bs sn.data.toList, bs so.data.toList, .slice a vs.length c, .slice none 0 0])
    rw [bs_list, bs_list]
  · have ho := own_keep (V := W.setRow w.heap.size #[.int .i64 k, .string sn, .string so, .slice a vs.length c, .slice none 0 0]) h.own fun g hb => setRow_other _ _ _ _ (by have := (own_lt'' h.own hb).1; omega)
    refine FltAt.mk' ⟨hsn, hso, hk.1, hk.2.1, by simp [Flt.parts]⟩ ((own_atts ho hok hl).far fun g hg => ⟨⟨by omega, hg.2⟩, rfl⟩) (by rw [show (Flt.mk k sn.data.toList so.data.toList vs []).parts = [] from rfl, PartsAt]; trivial)
end
theorem inT_eq {ts : List Tc} {y2 y : Option (List Tok)} {u : Att} (h2 : coreX y2 = takes sOpen ts) (hv : (coreX y2).bind valP = (coreX y).map (fun r => (u, r))) : inU ts = inP u.text [u] (coreX y) := by
  rw [h2] at hv
  unfold inU
  cases h1 : takes sOpen ts with
  | none =>
    rw [h1] at hv
    cases hy : coreX y with
    | none => rfl
    | some r => rw [hy] at hv; cases hv
  | some r2 =>
    rw [h1] at hv
    have hv : valP r2 = (coreX y).map (fun r => (u, r)) := hv
    simp only
    rw [hv]
    cases hy : coreX y with
    | none => rfl
    | some r3 =>
      show (match valsP u.text (r3.length + 1) r3 with | none => none | some (vs, r4) => some (u :: vs, r4)) = (valsP u.text (r3.length + 1) r3).map _
      cases valsP u.text (r3.length + 1) r3 with
      | none => rfl
      | some a => rfl
/-- In the loop: the values so far. -/
def LfQ (F : Option (List Att × List Tc)) (tx : Bool) (w : World) (p z : Nat) (L : List Tok) (q qv : Nat) (vc : Array Value) (sn : ByteArray) (wr : World) : Prop :=
  ∃ (vs : List Att) (x : Option (List Tok)) (vl : Value), Hid (F = inP tx vs (coreX x)) ∧ LfS w p z L q qv vc 6 sn ⟨#[]⟩ wr x vl vs ∧ (∀ v ∈ vs, attOk v) ∧ 0 < vs.length ∧ vs.length + lenX x ≤ 601
theorem ok_app {vs : List Att} {u : Att} (h : ∀ v ∈ vs, attOk v) (hu : attOk u) : ∀ v ∈ vs ++ [u], attOk v := fun v hv => by
  rcases List.mem_append.1 hv with h1 | h1
  · exact h v h1
  · simp at h1; rw [h1]; exact hu
theorem ok_one {u : Att} (hu : attOk u) : ∀ v ∈ [u], attOk v := fun v hv => by simp at hv; rw [hv]; exact hu
set_option maxHeartbeats 16000000 in
set_option maxRecDepth 100000 in
theorem pleaf_any (L : List Tok) (hl : L.length ≤ 600) (hg : ∀ t ∈ L, TG t) (x : Option (List Tok)) (hx6 : lenX x ≤ 600) (p z : Nat) (hz : z ≤ p) (w : World) (h : PS w p z L x) :
    Calls Tryz.prog 90 #[.pointer (some ⟨p, 0, none⟩)] w fun e w' => REnd ((coreX x).bind leafP) (lenX x) p z L w w' e := by
  have hp : p < w.heap.size := h.lt
  have hqp : w.heap.size ≠ p := by omega
  have HGT := Lib.hid hg
  have HM := Lib.hid (show ∀ t r, x = some (t :: r) → TG t from fun t r e => by
    obtain ⟨a, cap, at_, _, _, _, _, _, _, hx⟩ := h
    exact hg t (List.mem_of_mem_drop (by rw [← hx _ e]; exact List.mem_cons_self ..)))
  obtain ⟨i0, hi, hz0, hz1, hz2⟩ := info_cut' infoAtt
  obtain ⟨w1, hw1⟩ : ∃ v, v = w.alloc (.cells #[.int .i64 0, .string ⟨#[]⟩, .string ⟨#[]⟩, .slice none 0 0, .slice none 0 0] 25) := ⟨_, rfl⟩
  have HW := Lib.hid hw1
  have CT := Lib.hid (ptoken_any L hl 1 1 (by omega) x p z hz w1 (by rw [hw1]; exact h.alloc hz _))
  have Y1 := Lib.hid (show Rw w1 w.heap.size #[.int .i64 0, .string ⟨#[]⟩, .string ⟨#[]⟩, .slice none 0 0, .slice none 0 0] by rw [hw1]; exact Rw.new ..)
  have G1 := Lib.hid (show w.grownBy w1 (some p) by rw [hw1]; exact gr_alloc (gr_refl _ _) _)
  have hs1 : w1.heap.size = w.heap.size + 1 := by rw [hw1]; simp
  clear hw1 h hg
  go_enter Tryz.func90, Tryz.ntmps90
  go_wp2_with fail
  rw [← HW.out]
  refine Calls.mono CT.out ?_
  rintro e w2 hT
  obtain ⟨tk, tp, tn, sn, x1, he, hg2, hps2, HL, HSN, hlx⟩ : ∃ (tk tp tn : Int) (sn : ByteArray) (x1 : Option (List Tok)), e = .returned (.agg #[.int .i64 tk, .int .i64 tp, .int .i64 tn, .string sn]) ∧ w1.grownBy w2 (some p) ∧ PS w2 p z L x1 ∧
      Hid ((coreX x).bind leafP = (coreX x1).bind (leafU sn.data.toList)) ∧ Hid (sn.data.toList.length ≤ maxLen) ∧ lenX x1 ≤ lenX x := by
    obtain ⟨hg2, ⟨t, r, rfl, hk, rfl, hps⟩ | ⟨hno, rfl, hps⟩⟩ := hT
    · obtain ⟨st, est, hst⟩ := bs_bytes t.str
      refine ⟨t.kind, t.pos, t.num, st, some r, by rw [est], hg2, hps, Lib.hid ?_, Lib.hid ?_, ?_⟩
      · show leafP (core t :: r.map core) = leafU st.data.toList (r.map core)
        rw [leafP_cons, if_pos (show (core t).kind = 1 from by show t.kind = 1; omega), hst]
        rfl
      · rw [hst]
        have := (HM.out t r rfl).2.2.2.2.2.2
        unfold maxLen
        omega
      · show r.length ≤ (t :: r).length
        simp
    · refine ⟨0, 0, 0, ⟨#[]⟩, none, rfl, hg2, hps, Lib.hid ?_, Lib.hid (by simp), Nat.zero_le _⟩
      match x, hno with
      | none, _ => rfl
      | some [], _ => rfl
      | some (t :: r), hno =>
        show leafP (core t :: r.map core) = none
        rw [leafP_cons, if_neg (show ¬ (core t).kind = 1 from fun h => hno t r rfl (Or.inl h))]
  subst he
  have hs2 : w1.heap.size ≤ w2.heap.size := hg2.size
  obtain ⟨q, hq⟩ : ∃ q, q = w2.heap.size + 1 := ⟨_, rfl⟩
  obtain ⟨w3, hw3⟩ : ∃ v, v = (w2.alloc (.cells #[.int .i64 tk, .int .i64 tp, .int .i64 tn, .string sn] 76)).alloc (.cells #[.int .i64 0, .string sn, .string ⟨#[]⟩, .slice none 0 0, .slice none 0 0] 25) := ⟨_, rfl⟩
  have HW3 := Lib.hid hw3
  have HQE := Lib.hid hq
  have HQ := Lib.hid (show w.heap.size < q by omega)
  have hsz3 : (w2.alloc (.cells #[.int .i64 tk, .int .i64 tp, .int .i64 tn, .string sn] 76)).heap.size = q := by simp [hq]
  have P3 := Lib.hid (show PS w3 p z L x1 by rw [hw3]; exact (hps2.alloc hz _).alloc hz _)
  have X3 := Lib.hid (show Bx w3 q (.int .i64 0) (.string sn) (.string ⟨#[]⟩) (.slice none 0 0) (.slice none 0 0) by rw [hw3, ← hsz3]; exact Bx.new ..)
  have Y3 := Lib.hid (show Rw w3 w.heap.size #[.int .i64 0, .string ⟨#[]⟩, .string ⟨#[]⟩, .slice none 0 0, .slice none 0 0] by rw [hw3]; exact (Y1.out.gr hg2 hqp).alloc2 _ _)
  have G3 := Lib.hid (show w.grownBy w3 (some p) by rw [hw3]; exact gr_alloc (gr_alloc (G1.out.trans hg2) _) _)
  clear hw3 hq hsz3 hg2 hps2 HM CT
  go_wp2_with fail
  rw [← HW3.out, ← HQE.out]
  refine Calls.mono (ptakes_any L hl x1 ⟨#[105, 110]⟩ p z hz _ P3.out) ?_
  rintro e w4 ⟨hg4, ⟨t1, r1, rfl, ht1, rfl, hps4⟩ | ⟨ht1, rfl, hps4⟩⟩
  · skip
    have G4 := Lib.hid (G3.out.trans hg4)
    have X4 := Lib.hid (X3.out.gr hg4 (by have := HQ.out; omega))
    have Y4 := Lib.hid (Y3.out.gr hg4 hqp)
    have P4 := Lib.hid hps4
    have HT := Lib.hid (show (coreX x).bind leafP = asIn sn.data.toList (inU (r1.map core)) by
      rw [HL.out]
      show leafU sn.data.toList ((t1 :: r1).map core) = _
      unfold leafU
      rw [show takes wIn ((t1 :: r1).map core) = some (r1.map core) from ht1])
    have hr1 : r1.length + 1 ≤ 600 := by have : lenX (some (t1 :: r1)) = r1.length + 1 := rfl; omega
    clear hg4 hps4 ht1
    obtain ⟨⟨b0, b1, b2, b3, b4⟩, bf⟩ := X4.out
    have bl : q < w4.heap.size := World.block_lt_of_cell? w4 ⟨q, 0, none⟩ b0
    have bf0 := bf 0
    have bf2 := bf 2
    have bf3 := bf 3
    obtain ⟨w5, hw⟩ : ∃ v, v = w4.setCell ⟨q, 0, none⟩ (.int .i64 6) := ⟨_, rfl⟩
    have HW5 := Lib.hid hw
    have G5 := Lib.hid (show w.grownBy w5 (some p) by rw [hw]; exact gr_new G4.out (by have := HQ.out; omega) _)
    have X5 := Lib.hid (show Bx w5 q (.int .i64 6) (.string sn) (.string ⟨#[]⟩) (.slice none 0 0) (.slice none 0 0) by rw [hw]; exact X4.out.set0 _)
    have Y5 := Lib.hid (show Rw w5 w.heap.size #[.int .i64 0, .string ⟨#[]⟩, .string ⟨#[]⟩, .slice none 0 0, .slice none 0 0] by rw [hw]; exact Y4.out.same (Below.heap_setCell _ _ _ _ (by have := HQ.out; simp only; omega)))
    have P5 := Lib.hid (show PS w5 p z L _ by rw [hw]; exact P4.out.setCell (by have := HQ.out; omega) (by have := HQ.out; omega) _)
    clear hw
    go_wp2_with fail
    rw [← HW5.out]
    clear b0 b1 b2 b3 b4 bf bl bf0 bf2 bf3
    refine Calls.mono (pmust_any L hl (some r1) ⟨#[40]⟩ p z hz _ P5.out) ?_
    rintro e w6 ⟨hg6, y2, rfl, hps6, hy2⟩
    have G6 := Lib.hid (G5.out.trans hg6)
    have X6 := Lib.hid (X5.out.gr hg6 (by have := HQ.out; omega))
    have Y6 := Lib.hid (Y5.out.gr hg6 hqp)
    have hly2 := (takes_lenX hy2).2
    have hlr1 : lenX (some r1) = r1.length := rfl
    have HY2 := Lib.hid hy2
    go_wp2_with fail
    refine Calls.mono (pvalu_any L hl HGT.out y2 p z hz _ hps6) ?_
    rintro e w7 ⟨hg7, u, y, rfl, hps7, hok, hv, hly⟩
    have G7 := Lib.hid (G6.out.trans hg7)
    have X7 := Lib.hid (X6.out.gr hg7 (by have := HQ.out; omega))
    have Y7 := Lib.hid (Y6.out.gr hg7 hqp)
    have P7 := Lib.hid hps7
    have HOK := Lib.hid hok
    have HF0 := Lib.hid (inT_eq (ts := r1.map core) HY2.out hv)
    have hpw7 : p < w7.heap.size := P7.out.lt
    clear hg6 hg7 hps6 hps7 hok hv hy2
    obtain ⟨vn, evn, _⟩ := bs_bytes u.name
    obtain ⟨vq, evs, _⟩ := bs_bytes u.str
    obtain ⟨vt, hvt⟩ : ∃ x, x = u.text := ⟨_, rfl⟩
    obtain ⟨vm, hvm⟩ : ∃ x, x = u.num := ⟨_, rfl⟩
    have HAC := Lib.hid (show attC u = [.string vn, .bool vt, .int .i64 vm, .string vq] by rw [attC, evn, evs, hvt, hvm])
    have HVT := Lib.hid hvt
    rw [evn, evs, ← hvt, ← hvm]
    clear evn evs hvt hvm
    have XB := X7
    have RB := Y7
    have GB := G7
    have SV := Lib.hid (show LfS w p z L q w7.heap.size #[.string vn, .bool vt, .int .i64 vm, .string vq] 6 sn ⟨#[]⟩ (w7.alloc (.cells #[.string vn, .bool vt, .int .i64 vm, .string vq] 47)) _ (.slice none 0 0) [] from by
      have hsz : w7.heap.size = w7.heap.size := by first | rfl | simp [World.setCell]
      refine ⟨(P7.out).alloc hz _, (XB.out).alloc _, (RB.out).alloc _, ?_, gr_alloc GB.out _, World.ownsRow_nil _ _ _ _, hz, hp, by have := HQ.out; omega, by have := X7.out.1.lt; omega, by first | (simp; done) | (simp [World.setCell]; done) | (simp; omega)⟩
      have := R4.new 47 w7 #[.string vn, .bool vt, .int .i64 vm, .string vq]
      rwa [hsz] at this)
    have HOa := Lib.hid (show ((w7.alloc (.cells #[.string vn, .bool vt, .int .i64 vm, .string vq] 47)).alloc (.cells #[.string vn, .bool vt, .int .i64 vm, .string vq] 47)).ownsRow (w7.heap.size + 1) 47 4 (.slice none 0 0) 0 [] from (SV.out.alloc (.cells #[.string vn, .bool vt, .int .i64 vm, .string vq] 47)).own)
    have NW := Lib.hid (show ∀ j v, ([.string vn, .bool vt, .int .i64 vm, .string vq] : List Value)[j]? = some v → ((w7.alloc (.cells #[.string vn, .bool vt, .int .i64 vm, .string vq] 47)).alloc (.cells #[.string vn, .bool vt, .int .i64 vm, .string vq] 47)).cell? ((⟨w7.heap.size + 1, 0, none⟩ : Addr).add j) = some v by
      have := news4 (w7.alloc (.cells #[.string vn, .bool vt, .int .i64 vm, .string vq] 47)) (.string vn) (.bool vt) (.int .i64 vm) (.string vq) 47
      rwa [show (w7.alloc (.cells #[.string vn, .bool vt, .int .i64 vm, .string vq] 47)).heap.size = w7.heap.size + 1 by simp [World.setCell]] at this)
    have HBSz := Lib.hid (show w7.heap.size + 1 ≤ ((w7.alloc (.cells #[.string vn, .bool vt, .int .i64 vm, .string vq] 47)).alloc (.cells #[.string vn, .bool vt, .int .i64 vm, .string vq] 47)).heap.size by have := SV.out.pl; simp [World.setCell] at this ⊢ <;> omega)
    obtain ⟨⟨b0, b1, b2, b3, b4⟩, bf⟩ := X7.out
    have bl : q < w7.heap.size := World.block_lt_of_cell? w7 ⟨q, 0, none⟩ b0
    have bf0 := bf 0
    have bf2 := bf 2
    have bf3 := bf 3
    go_wp2_with (first | (at_builtin; refine wpList_append_own_at _ rfl _ _ 22 rfl (w7.heap.size + 1) 47 i0 (.agg #[.string ⟨#[]⟩, .bool false, .int .i64 0, .string ⟨#[]⟩]) 4 48 Tryz.underlying22 hi hz0 hz1 hz2 rfl (by decide) _ _ _ rfl HOa.out ⟨w7.heap.size + 1, 0, none⟩ 1 1 [.string vn, .bool vt, .int .i64 vm, .string vq] rfl rfl NW.out (by intro u hu; simp at hu; rcases hu with rfl | rfl | rfl | rfl <;> rfl) (by unfold maxLen; omega) (by omega) HBSz.out ?_))
    intro v1 wA hown hgrow _ hat
    have hownU := Lib.hid (show wA.ownsRow (w7.heap.size + 1) 47 4 v1 [u].length (attsC [u]) by rw [show ([u] : List Att) = [] ++ [u] from rfl, attsC_app, HAC.out, List.length_append]; exact hown)
    obtain ⟨g1, cap1, hv1⟩ := own_form hownU.out (by simp)
    subst hv1
    have SA := Lib.hid (LfS.app (SV.out.alloc (.cells #[.string vn, .bool vt, .int .i64 vm, .string vq] 47)) hgrow hownU.out)
    clear hown hgrow hat HOa NW HBSz
    obtain ⟨⟨b0, b1, b2, b3, b4⟩, bf⟩ := SA.out.2
    have bl : q < wA.heap.size := World.block_lt_of_cell? wA ⟨q, 0, none⟩ b0
    have bf3 := bf 3
    have HST := Lib.hid (show LfQ (inU (r1.map core)) vt w p z L q w7.heap.size #[.string vn, .bool vt, .int .i64 vm, .string vq] sn (wA.setCell ⟨q, 3, none⟩ (.slice (some ⟨g1, 0, none⟩) [u].length cap1)) from ⟨[u], y, _, Lib.hid (by rw [HF0.out, HVT.out]), SA.out.1, ok_one HOK.out, by simp, by simp; omega⟩)
    go_wp2_with fail
    go_loopw [] (fun wr => LfQ (inU (r1.map core)) vt w p z L q w7.heap.size #[.string vn, .bool vt, .int .i64 vm, .string vq] sn wr) (fun wr => lenP L.length wr p)
    case atStart => exact HST.out
    case round =>
      clear b0 b1 b2 b3 b4 bf bl bf3 HST SA SV
      obtain ⟨vs, x', vl, hF, hS, hok, h0, hle⟩ := hrel
      have S0 := Lib.hid hS
      have HOKS := Lib.hid hok
      have H0 := Lib.hid h0
      obtain ⟨gl, capl, hvl⟩ := own_form hS.own h0
      subst hvl
      have hvs : vs.length ≤ 601 := by omega
      clear hS hok
      go_wp2_with fail
      refine Calls.mono (ptakes_any L hl x' ⟨#[44]⟩ p z hz _ S0.out.ps) ?_
      rintro e w8 ⟨hg8, ⟨t2, r2, rfl, ht2, rfl, hps8⟩ | ⟨ht2, rfl, hps8⟩⟩
      · have S8 := Lib.hid (S0.out.step hg8 hps8)
        have HT2 := Lib.hid (show takes sComma ((t2 :: r2).map core) = some (r2.map core) from ht2)
        have hl2 : lenX (some (t2 :: r2)) = r2.length + 1 := rfl
        clear hg8 hps8 ht2
        go_wp2_with fail
        refine Calls.mono (pvalu_any L hl HGT.out (some r2) p z hz _ S8.out.ps) ?_
        rintro e w9 ⟨hg9, u2, y', rfl, hps9, hok9, hv9, hly9⟩
        have S9 := Lib.hid (S8.out.step hg9 hps9)
        have HOK9 := Lib.hid hok9
        have HV9 := Lib.hid (show valP (r2.map core) = (coreX y').map (fun r => (u2, r)) from hv9)
        have hlr2 : lenX (some r2) = r2.length := rfl
        have hpw9 : p < w9.heap.size := hps9.lt
        have HPZ := Lib.hid hps9
        obtain ⟨_, _, _, _, _, _, c2, cf, _, _⟩ := hps9
        have cf2 := cf 2
        obtain ⟨_, v1c, _, _⟩ := S9.out.r4.four
        have v1l : w7.heap.size < w9.heap.size := S9.out.r4.lt
        obtain ⟨⟨b0, b1, b2, b3, b4⟩, bf⟩ := S9.out.bx
        have bl : q < w9.heap.size := World.block_lt_of_cell? w9 ⟨q, 0, none⟩ b0
        have bf3 := bf 3
        have hqp' : ¬ q = p := by have := HQ.out; omega
        have hvp' : ¬ w7.heap.size = p := by omega
        clear hg9 hok9 hv9 cf
        obtain ⟨vn2, evn, _⟩ := bs_bytes u2.name
        obtain ⟨vq2, evs, _⟩ := bs_bytes u2.str
        obtain ⟨vt2, hvt⟩ : ∃ x, x = u2.text := ⟨_, rfl⟩
        obtain ⟨vm2, hvm⟩ : ∃ x, x = u2.num := ⟨_, rfl⟩
        have HAC2 := Lib.hid (show attC u2 = [.string vn2, .bool vt2, .int .i64 vm2, .string vq2] by rw [attC, evn, evs, hvt, hvm])
        have HVT2 := Lib.hid hvt
        rw [evn, evs, ← hvt, ← hvm]
        clear evn evs hvt hvm
        cases y' with
        | none =>
          simp only [Option.isNone_none] at c2
          have HNO := Lib.hid (inP_none (tx := vt) (vs := vs) HT2.out HV9.out)
          have SB := Lib.hid (S9.out.bad false true rfl)
          have SV := Lib.hid (SB.out.alloc (.cells #[.string vn2, .bool vt2, .int .i64 vm2, .string vq2] 47))
          have HOa := Lib.hid ((SV.out.alloc (.cells #[.string vn2, .bool vt2, .int .i64 vm2, .string vq2] 47)).own)
          have NW := Lib.hid (show ∀ j v, ([.string vn2, .bool vt2, .int .i64 vm2, .string vq2] : List Value)[j]? = some v → (((w9.setCell ⟨p, 2, none⟩ (.bool true)).alloc (.cells #[.string vn2, .bool vt2, .int .i64 vm2, .string vq2] 47)).alloc (.cells #[.string vn2, .bool vt2, .int .i64 vm2, .string vq2] 47)).cell? ((⟨w9.heap.size + 1, 0, none⟩ : Addr).add j) = some v by
            have := news4 ((w9.setCell ⟨p, 2, none⟩ (.bool true)).alloc (.cells #[.string vn2, .bool vt2, .int .i64 vm2, .string vq2] 47)) (.string vn2) (.bool vt2) (.int .i64 vm2) (.string vq2) 47
            rwa [show ((w9.setCell ⟨p, 2, none⟩ (.bool true)).alloc (.cells #[.string vn2, .bool vt2, .int .i64 vm2, .string vq2] 47)).heap.size = w9.heap.size + 1 by simp [World.setCell]] at this)
          have HBSz := Lib.hid (show w7.heap.size + 1 ≤ (((w9.setCell ⟨p, 2, none⟩ (.bool true)).alloc (.cells #[.string vn2, .bool vt2, .int .i64 vm2, .string vq2] 47)).alloc (.cells #[.string vn2, .bool vt2, .int .i64 vm2, .string vq2] 47)).heap.size by have := SV.out.pl; simp [World.setCell] at this ⊢ <;> omega)
          go_wp2_with (first | (at_builtin; refine wpList_append_own_at _ rfl _ _ 22 rfl (w7.heap.size + 1) 47 i0 (.agg #[.string ⟨#[]⟩, .bool false, .int .i64 0, .string ⟨#[]⟩]) 4 48 Tryz.underlying22 hi hz0 hz1 hz2 rfl (by decide) _ _ _ rfl HOa.out ⟨w9.heap.size + 1, 0, none⟩ 1 1 [.string vn2, .bool vt2, .int .i64 vm2, .string vq2] rfl rfl NW.out (by intro u hu; simp at hu; rcases hu with rfl | rfl | rfl | rfl <;> rfl) (by unfold maxLen; omega) (by omega) HBSz.out ?_))
          intro v1 wA hown hgrow _ hat
          have hownU := Lib.hid (show wA.ownsRow (w7.heap.size + 1) 47 4 v1 (vs ++ [u2]).length (attsC (vs ++ [u2])) by rw [attsC_app, HAC2.out, List.length_append]; exact hown)
          obtain ⟨g1, cap1, hv1⟩ := own_form hownU.out (by simp)
          subst hv1
          have SA := Lib.hid (LfS.app (SV.out.alloc (.cells #[.string vn2, .bool vt2, .int .i64 vm2, .string vq2] 47)) hgrow hownU.out)
          clear hown hgrow hat HOa NW HBSz
          obtain ⟨⟨b0, b1, b2, b3, b4⟩, bf⟩ := SA.out.2
          have bl : q < wA.heap.size := World.block_lt_of_cell? wA ⟨q, 0, none⟩ b0
          have bf3 := bf 3
          have HEND := Lib.hid (show LfQ (inU (r1.map core)) vt w p z L q w7.heap.size #[.string vn, .bool vt, .int .i64 vm, .string vq] sn (wA.setCell ⟨q, 3, none⟩ (.slice (some ⟨g1, 0, none⟩) (vs.length + 1) cap1)) from by
            rw [show vs.length + 1 = (vs ++ [u2]).length by simp]
            exact ⟨vs ++ [u2], none, _, Lib.hid (by rw [hF.out]; exact HNO.out.trans rfl), SA.out.1, ok_app HOKS.out HOK9.out, by simp, by have := hle; simp [lenX]; omega⟩)
          have HME := Lib.hid (show lenP L.length (wA.setCell ⟨q, 3, none⟩ (.slice (some ⟨g1, 0, none⟩) (vs.length + 1) cap1)) p < lenP L.length wr p by rw [show vs.length + 1 = (vs ++ [u2]).length by simp, SA.out.1.ps.len, S0.out.ps.len]; show 0 < 1 + (r2.length + 1); omega)
          go_wp2_with fail
          go_roundw
          case rel => first | exact HEND.out | ((repeat apply Exists.intro); exact ⟨HEND.out, rfl⟩)
          case measure => exact HME.out
        | some r3 =>
          simp only [Option.isNone_some] at c2
          have hlr3 : lenX (some r3) = r3.length := rfl
          by_cases hvv : vt = vt2
          · have HYES := Lib.hid (inP_comma (tx := vt) (vs := vs) HT2.out HV9.out (by rw [← HVT2.out]; exact hvv.symm))
            subst hvv
            have hbb : (vt != vt) = false := by simp
            have SB := Lib.hid (S9.out.bad false false rfl)
            have SV := Lib.hid (SB.out.alloc (.cells #[.string vn2, .bool vt, .int .i64 vm2, .string vq2] 47))
            have HOa := Lib.hid ((SV.out.alloc (.cells #[.string vn2, .bool vt, .int .i64 vm2, .string vq2] 47)).own)
            have NW := Lib.hid (show ∀ j v, ([.string vn2, .bool vt, .int .i64 vm2, .string vq2] : List Value)[j]? = some v → (((w9.setCell ⟨p, 2, none⟩ (.bool false)).alloc (.cells #[.string vn2, .bool vt, .int .i64 vm2, .string vq2] 47)).alloc (.cells #[.string vn2, .bool vt, .int .i64 vm2, .string vq2] 47)).cell? ((⟨w9.heap.size + 1, 0, none⟩ : Addr).add j) = some v by
              have := news4 ((w9.setCell ⟨p, 2, none⟩ (.bool false)).alloc (.cells #[.string vn2, .bool vt, .int .i64 vm2, .string vq2] 47)) (.string vn2) (.bool vt) (.int .i64 vm2) (.string vq2) 47
              rwa [show ((w9.setCell ⟨p, 2, none⟩ (.bool false)).alloc (.cells #[.string vn2, .bool vt, .int .i64 vm2, .string vq2] 47)).heap.size = w9.heap.size + 1 by simp [World.setCell]] at this)
            have HBSz := Lib.hid (show w7.heap.size + 1 ≤ (((w9.setCell ⟨p, 2, none⟩ (.bool false)).alloc (.cells #[.string vn2, .bool vt, .int .i64 vm2, .string vq2] 47)).alloc (.cells #[.string vn2, .bool vt, .int .i64 vm2, .string vq2] 47)).heap.size by have := SV.out.pl; simp [World.setCell] at this ⊢ <;> omega)
            go_wp2_with (first | (at_builtin; refine wpList_append_own_at _ rfl _ _ 22 rfl (w7.heap.size + 1) 47 i0 (.agg #[.string ⟨#[]⟩, .bool false, .int .i64 0, .string ⟨#[]⟩]) 4 48 Tryz.underlying22 hi hz0 hz1 hz2 rfl (by decide) _ _ _ rfl HOa.out ⟨w9.heap.size + 1, 0, none⟩ 1 1 [.string vn2, .bool vt, .int .i64 vm2, .string vq2] rfl rfl NW.out (by intro u hu; simp at hu; rcases hu with rfl | rfl | rfl | rfl <;> rfl) (by unfold maxLen; omega) (by omega) HBSz.out ?_))
            intro v1 wA hown hgrow _ hat
            have hownU := Lib.hid (show wA.ownsRow (w7.heap.size + 1) 47 4 v1 (vs ++ [u2]).length (attsC (vs ++ [u2])) by rw [attsC_app, HAC2.out, List.length_append]; exact hown)
            obtain ⟨g1, cap1, hv1⟩ := own_form hownU.out (by simp)
            subst hv1
            have SA := Lib.hid (LfS.app (SV.out.alloc (.cells #[.string vn2, .bool vt, .int .i64 vm2, .string vq2] 47)) hgrow hownU.out)
            clear hown hgrow hat HOa NW HBSz
            obtain ⟨⟨b0, b1, b2, b3, b4⟩, bf⟩ := SA.out.2
            have bl : q < wA.heap.size := World.block_lt_of_cell? wA ⟨q, 0, none⟩ b0
            have bf3 := bf 3
            have HEND := Lib.hid (show LfQ (inU (r1.map core)) vt w p z L q w7.heap.size #[.string vn, .bool vt, .int .i64 vm, .string vq] sn (wA.setCell ⟨q, 3, none⟩ (.slice (some ⟨g1, 0, none⟩) (vs.length + 1) cap1)) from by
              rw [show vs.length + 1 = (vs ++ [u2]).length by simp]
              exact ⟨vs ++ [u2], some r3, _, Lib.hid (by rw [hF.out]; exact HYES.out), SA.out.1, ok_app HOKS.out HOK9.out, by simp, by have := hle; simp []; have : lenX (some r3) = r3.length := rfl; omega⟩)
            have HME := Lib.hid (show lenP L.length (wA.setCell ⟨q, 3, none⟩ (.slice (some ⟨g1, 0, none⟩) (vs.length + 1) cap1)) p < lenP L.length wr p by rw [show vs.length + 1 = (vs ++ [u2]).length by simp, SA.out.1.ps.len, S0.out.ps.len]; show 1 + r3.length < 1 + (r2.length + 1); omega)
            go_wp2_with fail
            go_roundw
            case rel => first | exact HEND.out | ((repeat apply Exists.intro); exact ⟨HEND.out, rfl⟩)
            case measure => exact HME.out
          · have HNO := Lib.hid (inP_sort (tx := vt) (vs := vs) HT2.out HV9.out (by rw [← HVT2.out]; exact fun h => hvv h.symm))
            have hbb : (vt2 != vt) = true := bne_iff_ne.2 (fun h => hvv h.symm)
            have hbe : (vt2 == vt) = false := beq_eq_false_iff_ne.2 (fun h => hvv h.symm)
            have SB := Lib.hid (S9.out.bad true true rfl)
            have SV := Lib.hid (SB.out.alloc (.cells #[.string vn2, .bool vt2, .int .i64 vm2, .string vq2] 47))
            have HOa := Lib.hid ((SV.out.alloc (.cells #[.string vn2, .bool vt2, .int .i64 vm2, .string vq2] 47)).own)
            have NW := Lib.hid (show ∀ j v, ([.string vn2, .bool vt2, .int .i64 vm2, .string vq2] : List Value)[j]? = some v → (((w9.setCell ⟨p, 2, none⟩ (.bool true)).alloc (.cells #[.string vn2, .bool vt2, .int .i64 vm2, .string vq2] 47)).alloc (.cells #[.string vn2, .bool vt2, .int .i64 vm2, .string vq2] 47)).cell? ((⟨w9.heap.size + 1, 0, none⟩ : Addr).add j) = some v by
              have := news4 ((w9.setCell ⟨p, 2, none⟩ (.bool true)).alloc (.cells #[.string vn2, .bool vt2, .int .i64 vm2, .string vq2] 47)) (.string vn2) (.bool vt2) (.int .i64 vm2) (.string vq2) 47
              rwa [show ((w9.setCell ⟨p, 2, none⟩ (.bool true)).alloc (.cells #[.string vn2, .bool vt2, .int .i64 vm2, .string vq2] 47)).heap.size = w9.heap.size + 1 by simp [World.setCell]] at this)
            have HBSz := Lib.hid (show w7.heap.size + 1 ≤ (((w9.setCell ⟨p, 2, none⟩ (.bool true)).alloc (.cells #[.string vn2, .bool vt2, .int .i64 vm2, .string vq2] 47)).alloc (.cells #[.string vn2, .bool vt2, .int .i64 vm2, .string vq2] 47)).heap.size by have := SV.out.pl; simp [World.setCell] at this ⊢ <;> omega)
            go_wp2_with (first | (at_builtin; refine wpList_append_own_at _ rfl _ _ 22 rfl (w7.heap.size + 1) 47 i0 (.agg #[.string ⟨#[]⟩, .bool false, .int .i64 0, .string ⟨#[]⟩]) 4 48 Tryz.underlying22 hi hz0 hz1 hz2 rfl (by decide) _ _ _ rfl HOa.out ⟨w9.heap.size + 1, 0, none⟩ 1 1 [.string vn2, .bool vt2, .int .i64 vm2, .string vq2] rfl rfl NW.out (by intro u hu; simp at hu; rcases hu with rfl | rfl | rfl | rfl <;> rfl) (by unfold maxLen; omega) (by omega) HBSz.out ?_))
            intro v1 wA hown hgrow _ hat
            have hownU := Lib.hid (show wA.ownsRow (w7.heap.size + 1) 47 4 v1 (vs ++ [u2]).length (attsC (vs ++ [u2])) by rw [attsC_app, HAC2.out, List.length_append]; exact hown)
            obtain ⟨g1, cap1, hv1⟩ := own_form hownU.out (by simp)
            subst hv1
            have SA := Lib.hid (LfS.app (SV.out.alloc (.cells #[.string vn2, .bool vt2, .int .i64 vm2, .string vq2] 47)) hgrow hownU.out)
            clear hown hgrow hat HOa NW HBSz
            obtain ⟨⟨b0, b1, b2, b3, b4⟩, bf⟩ := SA.out.2
            have bl : q < wA.heap.size := World.block_lt_of_cell? wA ⟨q, 0, none⟩ b0
            have bf3 := bf 3
            have HEND := Lib.hid (show LfQ (inU (r1.map core)) vt w p z L q w7.heap.size #[.string vn, .bool vt, .int .i64 vm, .string vq] sn (wA.setCell ⟨q, 3, none⟩ (.slice (some ⟨g1, 0, none⟩) (vs.length + 1) cap1)) from by
              rw [show vs.length + 1 = (vs ++ [u2]).length by simp]
              exact ⟨vs ++ [u2], none, _, Lib.hid (by rw [hF.out]; exact HNO.out.trans rfl), SA.out.1, ok_app HOKS.out HOK9.out, by simp, by have := hle; simp [lenX]; omega⟩)
            have HME := Lib.hid (show lenP L.length (wA.setCell ⟨q, 3, none⟩ (.slice (some ⟨g1, 0, none⟩) (vs.length + 1) cap1)) p < lenP L.length wr p by rw [show vs.length + 1 = (vs ++ [u2]).length by simp, SA.out.1.ps.len, S0.out.ps.len]; show 0 < 1 + (r2.length + 1); omega)
            go_wp2_with fail
            go_roundw
            case rel => first | exact HEND.out | ((repeat apply Exists.intro); exact ⟨HEND.out, rfl⟩)
            case measure => exact HME.out
      · have S8 := Lib.hid (S0.out.step hg8 hps8)
        have HSH := Lib.hid (inP_shut (tx := vt) (vs := vs) (x := coreX x') ht2)
        clear hg8 hps8 ht2
        go_wp2_with fail
        refine Calls.mono (pmust_any L hl x' ⟨#[41]⟩ p z hz _ S8.out.ps) ?_
        rintro e w9 ⟨hg9, y', rfl, hps9, hy9⟩
        have S9 := Lib.hid (S8.out.step hg9 hps9)
        have HY9 := Lib.hid (show coreX y' = (coreX x').bind (takes sShut) from hy9)
        obtain ⟨⟨b0, b1, b2, b3, b4⟩, bf⟩ := S9.out.bx
        have bl : q < w9.heap.size := World.block_lt_of_cell? w9 ⟨q, 0, none⟩ b0
        clear hg9 hps9 hy9
        go_wp2_with (skip; (refine wpList_store_rowTo rfl _ _ _ rfl rfl w.heap.size _ rfl rfl _ #[.int .i64 0, .string ⟨#[]⟩, .string ⟨#[]⟩, .slice none 0 0, .slice none 0 0] (by first | exact S9.out.rw) (by kernel_rfl) rfl (by simp [Value.oneCell']) ?_))
        refine retF Tryz.results90 rfl (S9.out.rw.set _).box rfl ?_
        have HRES := show (∃ r, (coreX x).bind leafP = some (.mk 6 sn.data.toList (⟨#[]⟩ : ByteArray).data.toList vs [], r) ∧ coreX y' = some r) ∨ ((coreX x).bind leafP = none ∧ y' = none) from by
          rw [HT.out, hF.out, HSH.out, ← HY9.out]
          cases y' with
          | none => exact Or.inr ⟨rfl, rfl⟩
          | some r => exact Or.inl ⟨_, rfl, rfl⟩

        exact S9.out.fin (by simp) (HOKS.out) (by first | (unfold maxLen; omega) | (simp [maxLen]; done) | (simp; unfold maxLen; omega)) (by omega) HSN.out (by simp) HRES
  · skip
    have P4 := Lib.hid hps4
    have HT1 := Lib.hid (show (coreX x1).bind (takes wIn) = none from ht1)
    have G4 := Lib.hid (G3.out.trans hg4)
    have X4 := Lib.hid (X3.out.gr hg4 (by have := HQ.out; omega))
    have Y4 := Lib.hid (Y3.out.gr hg4 hqp)
    clear hg4 hps4 ht1
    go_wp2_with fail
    refine Calls.mono (ptakes_any L hl x1 ⟨#[94, 61]⟩ p z hz _ P4.out) ?_
    rintro e w5 ⟨hg5, ⟨t1, r1, rfl, ht2, rfl, hps5⟩ | ⟨ht2, rfl, hps5⟩⟩
    · have P5 := Lib.hid hps5
      have G5 := Lib.hid (G4.out.trans hg5)
      have X5 := Lib.hid (X4.out.gr hg5 (by have := HQ.out; omega))
      have Y5 := Lib.hid (Y4.out.gr hg5 hqp)
      have HT := Lib.hid (show (coreX x).bind leafP = preU sn.data.toList (r1.map core) by
        rw [HL.out]
        show leafU sn.data.toList ((t1 :: r1).map core) = _
        unfold leafU
        rw [show takes wIn ((t1 :: r1).map core) = none from HT1.out]
        simp only
        rw [show takes sPre ((t1 :: r1).map core) = some (r1.map core) from ht2])
      clear hg5 hps5 ht2
      obtain ⟨⟨b0, b1, b2, b3, b4⟩, bf⟩ := X5.out
      have bl : q < w5.heap.size := World.block_lt_of_cell? w5 ⟨q, 0, none⟩ b0
      have bf0 := bf 0
      have bf2 := bf 2
      have bf3 := bf 3
      obtain ⟨w6, hw⟩ : ∃ v, v = w5.setCell ⟨q, 0, none⟩ (.int .i64 5) := ⟨_, rfl⟩
      have HW6 := Lib.hid hw
      have G6 := Lib.hid (show w.grownBy w6 (some p) by rw [hw]; exact gr_new G5.out (by have := HQ.out; omega) _)
      have X6 := Lib.hid (show Bx w6 q (.int .i64 5) (.string sn) (.string ⟨#[]⟩) (.slice none 0 0) (.slice none 0 0) by rw [hw]; exact X5.out.set0 _)
      have Y6 := Lib.hid (show Rw w6 w.heap.size #[.int .i64 0, .string ⟨#[]⟩, .string ⟨#[]⟩, .slice none 0 0, .slice none 0 0] by rw [hw]; exact Y5.out.same (Below.heap_setCell _ _ _ _ (by have := HQ.out; simp only; omega)))
      have P6 := Lib.hid (show PS w6 p z L _ by rw [hw]; exact P5.out.setCell (by have := HQ.out; omega) (by have := HQ.out; omega) _)
      clear hw
      go_wp2_with fail
      rw [← HW6.out]
      clear b0 b1 b2 b3 b4 bf bl bf0 bf2 bf3
      refine Calls.mono (pvalu_any L hl HGT.out (some r1) p z hz _ P6.out) ?_
      rintro e w7 ⟨hg7, u, y, rfl, hps7, hok, hv, hly⟩
      have G7 := Lib.hid (G6.out.trans hg7)
      have X7 := Lib.hid (X6.out.gr hg7 (by have := HQ.out; omega))
      have Y7 := Lib.hid (Y6.out.gr hg7 hqp)
      have P7 := Lib.hid hps7
      have HOK := Lib.hid hok
      have HV := Lib.hid (show valP (r1.map core) = (coreX y).map (fun r => (u, r)) from hv)
      have hpw7 : p < w7.heap.size := P7.out.lt
      have hqp' : ¬ q = p := by have := HQ.out; omega
      obtain ⟨_, _, _, _, _, _, c2, cf, _, _⟩ := hps7
      have cf2 := cf 2
      clear hg7 hok hv cf
      obtain ⟨vn, evn, _⟩ := bs_bytes u.name
      obtain ⟨vq, evs, _⟩ := bs_bytes u.str
      obtain ⟨vt, hvt⟩ : ∃ x, x = u.text := ⟨_, rfl⟩
      obtain ⟨vm, hvm⟩ : ∃ x, x = u.num := ⟨_, rfl⟩
      have HAC := Lib.hid (show attC u = [.string vn, .bool vt, .int .i64 vm, .string vq] by rw [attC, evn, evs, hvt, hvm])
      have HVT := Lib.hid hvt
      rw [evn, evs, ← hvt, ← hvm]
      clear evn evs hvt hvm
      cases y with
      | none =>
        simp only [Option.isNone_none] at c2
        have PB := Lib.hid (show PS (w7.setCell ⟨p, 2, none⟩ (.bool true)) p z L none from P7.out.setBad hz false true rfl)
        have XB := Lib.hid (show Bx (w7.setCell ⟨p, 2, none⟩ (.bool true)) q _ _ _ _ _ from X7.out.same (Below.heap_setCell _ _ _ _ (by simp only; omega)))
        have RB := Lib.hid (show Rw (w7.setCell ⟨p, 2, none⟩ (.bool true)) w.heap.size _ from Y7.out.same (Below.heap_setCell _ _ _ _ (by simp only; omega)))
        have GB := Lib.hid (show w.grownBy (w7.setCell ⟨p, 2, none⟩ (.bool true)) (some p) from gr_set G7.out _)
        have SV := Lib.hid (show LfS w p z L q w7.heap.size #[.string vn, .bool vt, .int .i64 vm, .string vq] 5 sn ⟨#[]⟩ ((w7.setCell ⟨p, 2, none⟩ (.bool true)).alloc (.cells #[.string vn, .bool vt, .int .i64 vm, .string vq] 47)) _ (.slice none 0 0) [] from by
          have hsz : (w7.setCell ⟨p, 2, none⟩ (.bool true)).heap.size = w7.heap.size := by first | rfl | simp [World.setCell]
          refine ⟨(PB.out).alloc hz _, (XB.out).alloc _, (RB.out).alloc _, ?_, gr_alloc GB.out _, World.ownsRow_nil _ _ _ _, hz, hp, by have := HQ.out; omega, by have := X7.out.1.lt; omega, by first | (simp; done) | (simp [World.setCell]; done) | (simp; omega)⟩
          have := R4.new 47 (w7.setCell ⟨p, 2, none⟩ (.bool true)) #[.string vn, .bool vt, .int .i64 vm, .string vq]
          rwa [hsz] at this)
        have HOa := Lib.hid (show (((w7.setCell ⟨p, 2, none⟩ (.bool true)).alloc (.cells #[.string vn, .bool vt, .int .i64 vm, .string vq] 47)).alloc (.cells #[.string vn, .bool vt, .int .i64 vm, .string vq] 47)).ownsRow (w7.heap.size + 1) 47 4 (.slice none 0 0) 0 [] from (SV.out.alloc (.cells #[.string vn, .bool vt, .int .i64 vm, .string vq] 47)).own)
        have NW := Lib.hid (show ∀ j v, ([.string vn, .bool vt, .int .i64 vm, .string vq] : List Value)[j]? = some v → (((w7.setCell ⟨p, 2, none⟩ (.bool true)).alloc (.cells #[.string vn, .bool vt, .int .i64 vm, .string vq] 47)).alloc (.cells #[.string vn, .bool vt, .int .i64 vm, .string vq] 47)).cell? ((⟨w7.heap.size + 1, 0, none⟩ : Addr).add j) = some v by
          have := news4 ((w7.setCell ⟨p, 2, none⟩ (.bool true)).alloc (.cells #[.string vn, .bool vt, .int .i64 vm, .string vq] 47)) (.string vn) (.bool vt) (.int .i64 vm) (.string vq) 47
          rwa [show ((w7.setCell ⟨p, 2, none⟩ (.bool true)).alloc (.cells #[.string vn, .bool vt, .int .i64 vm, .string vq] 47)).heap.size = w7.heap.size + 1 by simp [World.setCell]] at this)
        have HBSz := Lib.hid (show w7.heap.size + 1 ≤ (((w7.setCell ⟨p, 2, none⟩ (.bool true)).alloc (.cells #[.string vn, .bool vt, .int .i64 vm, .string vq] 47)).alloc (.cells #[.string vn, .bool vt, .int .i64 vm, .string vq] 47)).heap.size by have := SV.out.pl; simp [World.setCell] at this ⊢ <;> omega)
        obtain ⟨⟨b0, b1, b2, b3, b4⟩, bf⟩ := X7.out
        have bl : q < w7.heap.size := World.block_lt_of_cell? w7 ⟨q, 0, none⟩ b0
        have bf0 := bf 0
        have bf2 := bf 2
        have bf3 := bf 3
        go_wp2_with (first | (at_builtin; refine wpList_append_own_at _ rfl _ _ 22 rfl (w7.heap.size + 1) 47 i0 (.agg #[.string ⟨#[]⟩, .bool false, .int .i64 0, .string ⟨#[]⟩]) 4 48 Tryz.underlying22 hi hz0 hz1 hz2 rfl (by decide) _ _ _ rfl HOa.out ⟨w7.heap.size + 1, 0, none⟩ 1 1 [.string vn, .bool vt, .int .i64 vm, .string vq] rfl rfl NW.out (by intro u hu; simp at hu; rcases hu with rfl | rfl | rfl | rfl <;> rfl) (by unfold maxLen; omega) (by omega) HBSz.out ?_))
        intro v1 wA hown hgrow _ hat
        have hownU := Lib.hid (show wA.ownsRow (w7.heap.size + 1) 47 4 v1 [u].length (attsC [u]) by rw [show ([u] : List Att) = [] ++ [u] from rfl, attsC_app, HAC.out, List.length_append]; exact hown)
        obtain ⟨g1, cap1, hv1⟩ := own_form hownU.out (by simp)
        subst hv1
        have SA := Lib.hid (LfS.app (SV.out.alloc (.cells #[.string vn, .bool vt, .int .i64 vm, .string vq] 47)) hgrow hownU.out)
        clear hown hgrow hat HOa NW HBSz
        obtain ⟨⟨b0, b1, b2, b3, b4⟩, bf⟩ := SA.out.2
        have bl : q < wA.heap.size := World.block_lt_of_cell? wA ⟨q, 0, none⟩ b0
        have bf3 := bf 3
        go_wp2_with (skip; (refine wpList_store_rowTo rfl _ _ _ rfl rfl w.heap.size _ rfl rfl _ #[.int .i64 0, .string ⟨#[]⟩, .string ⟨#[]⟩, .slice none 0 0, .slice none 0 0] (by first | exact SA.out.1.rw) (by kernel_rfl) rfl (by simp [Value.oneCell']) ?_))
        refine retF Tryz.results90 rfl (SA.out.1.rw.set _).box rfl ?_
        have HRES := show (∃ r, (coreX x).bind leafP = some (.mk 5 sn.data.toList (⟨#[]⟩ : ByteArray).data.toList [u] [], r) ∧ coreX (none : Option (List Tok)) = some r) ∨ ((coreX x).bind leafP = none ∧ (none : Option (List Tok)) = none) from by
          rw [HT.out]
          unfold preU
          rw [HV.out]
          exact Or.inr ⟨rfl, rfl⟩

        exact SA.out.1.fin (by simp) (ok_one HOK.out) (by first | (unfold maxLen; omega) | (simp [maxLen]; done) | (simp; unfold maxLen; omega)) (by omega) HSN.out (by simp) HRES
      | some r3 =>
        simp only [Option.isNone_some] at c2
        cases vt with
        | true =>
          have PB := Lib.hid (show PS (w7.setCell ⟨p, 2, none⟩ (.bool false)) p z L (some r3) from P7.out.setBad hz false false rfl)
          have XB := Lib.hid (show Bx (w7.setCell ⟨p, 2, none⟩ (.bool false)) q _ _ _ _ _ from X7.out.same (Below.heap_setCell _ _ _ _ (by simp only; omega)))
          have RB := Lib.hid (show Rw (w7.setCell ⟨p, 2, none⟩ (.bool false)) w.heap.size _ from Y7.out.same (Below.heap_setCell _ _ _ _ (by simp only; omega)))
          have GB := Lib.hid (show w.grownBy (w7.setCell ⟨p, 2, none⟩ (.bool false)) (some p) from gr_set G7.out _)
          have SV := Lib.hid (show LfS w p z L q w7.heap.size #[.string vn, .bool true, .int .i64 vm, .string vq] 5 sn ⟨#[]⟩ ((w7.setCell ⟨p, 2, none⟩ (.bool false)).alloc (.cells #[.string vn, .bool true, .int .i64 vm, .string vq] 47)) _ (.slice none 0 0) [] from by
            have hsz : (w7.setCell ⟨p, 2, none⟩ (.bool false)).heap.size = w7.heap.size := by first | rfl | simp [World.setCell]
            refine ⟨(PB.out).alloc hz _, (XB.out).alloc _, (RB.out).alloc _, ?_, gr_alloc GB.out _, World.ownsRow_nil _ _ _ _, hz, hp, by have := HQ.out; omega, by have := X7.out.1.lt; omega, by first | (simp; done) | (simp [World.setCell]; done) | (simp; omega)⟩
            have := R4.new 47 (w7.setCell ⟨p, 2, none⟩ (.bool false)) #[.string vn, .bool true, .int .i64 vm, .string vq]
            rwa [hsz] at this)
          have HOa := Lib.hid (show (((w7.setCell ⟨p, 2, none⟩ (.bool false)).alloc (.cells #[.string vn, .bool true, .int .i64 vm, .string vq] 47)).alloc (.cells #[.string vn, .bool true, .int .i64 vm, .string vq] 47)).ownsRow (w7.heap.size + 1) 47 4 (.slice none 0 0) 0 [] from (SV.out.alloc (.cells #[.string vn, .bool true, .int .i64 vm, .string vq] 47)).own)
          have NW := Lib.hid (show ∀ j v, ([.string vn, .bool true, .int .i64 vm, .string vq] : List Value)[j]? = some v → (((w7.setCell ⟨p, 2, none⟩ (.bool false)).alloc (.cells #[.string vn, .bool true, .int .i64 vm, .string vq] 47)).alloc (.cells #[.string vn, .bool true, .int .i64 vm, .string vq] 47)).cell? ((⟨w7.heap.size + 1, 0, none⟩ : Addr).add j) = some v by
            have := news4 ((w7.setCell ⟨p, 2, none⟩ (.bool false)).alloc (.cells #[.string vn, .bool true, .int .i64 vm, .string vq] 47)) (.string vn) (.bool true) (.int .i64 vm) (.string vq) 47
            rwa [show ((w7.setCell ⟨p, 2, none⟩ (.bool false)).alloc (.cells #[.string vn, .bool true, .int .i64 vm, .string vq] 47)).heap.size = w7.heap.size + 1 by simp [World.setCell]] at this)
          have HBSz := Lib.hid (show w7.heap.size + 1 ≤ (((w7.setCell ⟨p, 2, none⟩ (.bool false)).alloc (.cells #[.string vn, .bool true, .int .i64 vm, .string vq] 47)).alloc (.cells #[.string vn, .bool true, .int .i64 vm, .string vq] 47)).heap.size by have := SV.out.pl; simp [World.setCell] at this ⊢ <;> omega)
          obtain ⟨⟨b0, b1, b2, b3, b4⟩, bf⟩ := X7.out
          have bl : q < w7.heap.size := World.block_lt_of_cell? w7 ⟨q, 0, none⟩ b0
          have bf0 := bf 0
          have bf2 := bf 2
          have bf3 := bf 3
          go_wp2_with (first | (at_builtin; refine wpList_append_own_at _ rfl _ _ 22 rfl (w7.heap.size + 1) 47 i0 (.agg #[.string ⟨#[]⟩, .bool false, .int .i64 0, .string ⟨#[]⟩]) 4 48 Tryz.underlying22 hi hz0 hz1 hz2 rfl (by decide) _ _ _ rfl HOa.out ⟨w7.heap.size + 1, 0, none⟩ 1 1 [.string vn, .bool true, .int .i64 vm, .string vq] rfl rfl NW.out (by intro u hu; simp at hu; rcases hu with rfl | rfl | rfl | rfl <;> rfl) (by unfold maxLen; omega) (by omega) HBSz.out ?_))
          intro v1 wA hown hgrow _ hat
          have hownU := Lib.hid (show wA.ownsRow (w7.heap.size + 1) 47 4 v1 [u].length (attsC [u]) by rw [show ([u] : List Att) = [] ++ [u] from rfl, attsC_app, HAC.out, List.length_append]; exact hown)
          obtain ⟨g1, cap1, hv1⟩ := own_form hownU.out (by simp)
          subst hv1
          have SA := Lib.hid (LfS.app (SV.out.alloc (.cells #[.string vn, .bool true, .int .i64 vm, .string vq] 47)) hgrow hownU.out)
          clear hown hgrow hat HOa NW HBSz
          obtain ⟨⟨b0, b1, b2, b3, b4⟩, bf⟩ := SA.out.2
          have bl : q < wA.heap.size := World.block_lt_of_cell? wA ⟨q, 0, none⟩ b0
          have bf3 := bf 3
          go_wp2_with (skip; (refine wpList_store_rowTo rfl _ _ _ rfl rfl w.heap.size _ rfl rfl _ #[.int .i64 0, .string ⟨#[]⟩, .string ⟨#[]⟩, .slice none 0 0, .slice none 0 0] (by first | exact SA.out.1.rw) (by kernel_rfl) rfl (by simp [Value.oneCell']) ?_))
          refine retF Tryz.results90 rfl (SA.out.1.rw.set _).box rfl ?_
          have HRES := show (∃ r, (coreX x).bind leafP = some (.mk 5 sn.data.toList (⟨#[]⟩ : ByteArray).data.toList [u] [], r) ∧ coreX (some r3) = some r) ∨ ((coreX x).bind leafP = none ∧ (some r3) = none) from by
            rw [HT.out]
            unfold preU
            rw [HV.out]
            exact Or.inl ⟨r3.map core, (by show (if u.text = true then _ else none) = _; rw [← HVT.out]; rfl), rfl⟩

          exact SA.out.1.fin (by simp) (ok_one HOK.out) (by first | (unfold maxLen; omega) | (simp [maxLen]; done) | (simp; unfold maxLen; omega)) (by omega) HSN.out (by simp) HRES
        | false =>
          have PB := Lib.hid (show PS (w7.setCell ⟨p, 2, none⟩ (.bool true)) p z L none from P7.out.setBad hz true true rfl)
          have XB := Lib.hid (show Bx (w7.setCell ⟨p, 2, none⟩ (.bool true)) q _ _ _ _ _ from X7.out.same (Below.heap_setCell _ _ _ _ (by simp only; omega)))
          have RB := Lib.hid (show Rw (w7.setCell ⟨p, 2, none⟩ (.bool true)) w.heap.size _ from Y7.out.same (Below.heap_setCell _ _ _ _ (by simp only; omega)))
          have GB := Lib.hid (show w.grownBy (w7.setCell ⟨p, 2, none⟩ (.bool true)) (some p) from gr_set G7.out _)
          have SV := Lib.hid (show LfS w p z L q w7.heap.size #[.string vn, .bool false, .int .i64 vm, .string vq] 5 sn ⟨#[]⟩ ((w7.setCell ⟨p, 2, none⟩ (.bool true)).alloc (.cells #[.string vn, .bool false, .int .i64 vm, .string vq] 47)) _ (.slice none 0 0) [] from by
            have hsz : (w7.setCell ⟨p, 2, none⟩ (.bool true)).heap.size = w7.heap.size := by first | rfl | simp [World.setCell]
            refine ⟨(PB.out).alloc hz _, (XB.out).alloc _, (RB.out).alloc _, ?_, gr_alloc GB.out _, World.ownsRow_nil _ _ _ _, hz, hp, by have := HQ.out; omega, by have := X7.out.1.lt; omega, by first | (simp; done) | (simp [World.setCell]; done) | (simp; omega)⟩
            have := R4.new 47 (w7.setCell ⟨p, 2, none⟩ (.bool true)) #[.string vn, .bool false, .int .i64 vm, .string vq]
            rwa [hsz] at this)
          have HOa := Lib.hid (show (((w7.setCell ⟨p, 2, none⟩ (.bool true)).alloc (.cells #[.string vn, .bool false, .int .i64 vm, .string vq] 47)).alloc (.cells #[.string vn, .bool false, .int .i64 vm, .string vq] 47)).ownsRow (w7.heap.size + 1) 47 4 (.slice none 0 0) 0 [] from (SV.out.alloc (.cells #[.string vn, .bool false, .int .i64 vm, .string vq] 47)).own)
          have NW := Lib.hid (show ∀ j v, ([.string vn, .bool false, .int .i64 vm, .string vq] : List Value)[j]? = some v → (((w7.setCell ⟨p, 2, none⟩ (.bool true)).alloc (.cells #[.string vn, .bool false, .int .i64 vm, .string vq] 47)).alloc (.cells #[.string vn, .bool false, .int .i64 vm, .string vq] 47)).cell? ((⟨w7.heap.size + 1, 0, none⟩ : Addr).add j) = some v by
            have := news4 ((w7.setCell ⟨p, 2, none⟩ (.bool true)).alloc (.cells #[.string vn, .bool false, .int .i64 vm, .string vq] 47)) (.string vn) (.bool false) (.int .i64 vm) (.string vq) 47
            rwa [show ((w7.setCell ⟨p, 2, none⟩ (.bool true)).alloc (.cells #[.string vn, .bool false, .int .i64 vm, .string vq] 47)).heap.size = w7.heap.size + 1 by simp [World.setCell]] at this)
          have HBSz := Lib.hid (show w7.heap.size + 1 ≤ (((w7.setCell ⟨p, 2, none⟩ (.bool true)).alloc (.cells #[.string vn, .bool false, .int .i64 vm, .string vq] 47)).alloc (.cells #[.string vn, .bool false, .int .i64 vm, .string vq] 47)).heap.size by have := SV.out.pl; simp [World.setCell] at this ⊢ <;> omega)
          obtain ⟨⟨b0, b1, b2, b3, b4⟩, bf⟩ := X7.out
          have bl : q < w7.heap.size := World.block_lt_of_cell? w7 ⟨q, 0, none⟩ b0
          have bf0 := bf 0
          have bf2 := bf 2
          have bf3 := bf 3
          go_wp2_with (first | (at_builtin; refine wpList_append_own_at _ rfl _ _ 22 rfl (w7.heap.size + 1) 47 i0 (.agg #[.string ⟨#[]⟩, .bool false, .int .i64 0, .string ⟨#[]⟩]) 4 48 Tryz.underlying22 hi hz0 hz1 hz2 rfl (by decide) _ _ _ rfl HOa.out ⟨w7.heap.size + 1, 0, none⟩ 1 1 [.string vn, .bool false, .int .i64 vm, .string vq] rfl rfl NW.out (by intro u hu; simp at hu; rcases hu with rfl | rfl | rfl | rfl <;> rfl) (by unfold maxLen; omega) (by omega) HBSz.out ?_))
          intro v1 wA hown hgrow _ hat
          have hownU := Lib.hid (show wA.ownsRow (w7.heap.size + 1) 47 4 v1 [u].length (attsC [u]) by rw [show ([u] : List Att) = [] ++ [u] from rfl, attsC_app, HAC.out, List.length_append]; exact hown)
          obtain ⟨g1, cap1, hv1⟩ := own_form hownU.out (by simp)
          subst hv1
          have SA := Lib.hid (LfS.app (SV.out.alloc (.cells #[.string vn, .bool false, .int .i64 vm, .string vq] 47)) hgrow hownU.out)
          clear hown hgrow hat HOa NW HBSz
          obtain ⟨⟨b0, b1, b2, b3, b4⟩, bf⟩ := SA.out.2
          have bl : q < wA.heap.size := World.block_lt_of_cell? wA ⟨q, 0, none⟩ b0
          have bf3 := bf 3
          go_wp2_with (skip; (refine wpList_store_rowTo rfl _ _ _ rfl rfl w.heap.size _ rfl rfl _ #[.int .i64 0, .string ⟨#[]⟩, .string ⟨#[]⟩, .slice none 0 0, .slice none 0 0] (by first | exact SA.out.1.rw) (by kernel_rfl) rfl (by simp [Value.oneCell']) ?_))
          refine retF Tryz.results90 rfl (SA.out.1.rw.set _).box rfl ?_
          have HRES := show (∃ r, (coreX x).bind leafP = some (.mk 5 sn.data.toList (⟨#[]⟩ : ByteArray).data.toList [u] [], r) ∧ coreX (none : Option (List Tok)) = some r) ∨ ((coreX x).bind leafP = none ∧ (none : Option (List Tok)) = none) from by
            rw [HT.out]
            unfold preU
            rw [HV.out]
            exact Or.inr ⟨(by show (if u.text = true then _ else none) = _; rw [← HVT.out]; rfl), rfl⟩

          exact SA.out.1.fin (by simp) (ok_one HOK.out) (by first | (unfold maxLen; omega) | (simp [maxLen]; done) | (simp; unfold maxLen; omega)) (by omega) HSN.out (by simp) HRES
    · skip
      have P5 := Lib.hid hps5
      have G5 := Lib.hid (G4.out.trans hg5)
      have X5 := Lib.hid (X4.out.gr hg5 (by have := HQ.out; omega))
      have Y5 := Lib.hid (Y4.out.gr hg5 hqp)
      have HT := Lib.hid (show (coreX x).bind leafP = (coreX x1).bind (opU sn.data.toList) by
        rw [HL.out]
        cases x1 with
        | none => rfl
        | some ts =>
          show leafU sn.data.toList (ts.map core) = opU sn.data.toList (ts.map core)
          unfold leafU
          rw [show takes wIn (ts.map core) = none from HT1.out]
          simp only
          rw [show takes sPre (ts.map core) = none from ht2])
      clear hg5 hps5 ht2
      obtain ⟨⟨b0, b1, b2, b3, b4⟩, bf⟩ := X5.out
      have bl : q < w5.heap.size := World.block_lt_of_cell? w5 ⟨q, 0, none⟩ b0
      have bf0 := bf 0
      have bf2 := bf 2
      have bf3 := bf 3
      obtain ⟨w6, hw⟩ : ∃ v, v = w5.setCell ⟨q, 0, none⟩ (.int .i64 4) := ⟨_, rfl⟩
      have HW6 := Lib.hid hw
      have G6 := Lib.hid (show w.grownBy w6 (some p) by rw [hw]; exact gr_new G5.out (by have := HQ.out; omega) _)
      have X6 := Lib.hid (show Bx w6 q (.int .i64 4) (.string sn) (.string ⟨#[]⟩) (.slice none 0 0) (.slice none 0 0) by rw [hw]; exact X5.out.set0 _)
      have Y6 := Lib.hid (show Rw w6 w.heap.size #[.int .i64 0, .string ⟨#[]⟩, .string ⟨#[]⟩, .slice none 0 0, .slice none 0 0] by rw [hw]; exact Y5.out.same (Below.heap_setCell _ _ _ _ (by have := HQ.out; simp only; omega)))
      have P6 := Lib.hid (show PS w6 p z L _ by rw [hw]; exact P5.out.setCell (by have := HQ.out; omega) (by have := HQ.out; omega) _)
      clear hw
      go_wp2_with fail
      rw [← HW6.out]
      clear b0 b1 b2 b3 b4 bf bl bf0 bf2 bf3
      have HM5 := Lib.hid (show ∀ t r, x1 = some (t :: r) → TG t from fun t r e => by
        obtain ⟨a, cap, at_, _, _, _, _, _, _, hx⟩ := P6.out
        exact HGT.out t (List.mem_of_mem_drop (by rw [← hx _ e]; exact List.mem_cons_self ..)))
      refine Calls.mono (ptoken_any L hl 5 5 (by omega) x1 p z hz _ P6.out) ?_
      rintro e w7 hT
      obtain ⟨ok_, op_, on_, so, b, y0, he, hg7, hps7, HOT, HSO, hb⟩ : ∃ (ok_ op_ on_ : Int) (so : ByteArray) (b : Bool) (y0 : Option (List Tok)), e = .returned (.agg #[.int .i64 ok_, .int .i64 op_, .int .i64 on_, .string so]) ∧ w6.grownBy w7 (some p) ∧ PS w7 p z L y0 ∧
          Hid ((coreX x1).bind (opU sn.data.toList) = ((coreX (if b then none else y0)).bind valP).map fun v => (.mk 4 sn.data.toList so.data.toList [v.1] [], v.2)) ∧ Hid (so.data.toList.length ≤ maxLen) ∧ (y0 = none ∨ b = !(opB so.data.toList)) := by
        obtain ⟨hg7, ⟨t, r, rfl, hk, rfl, hps⟩ | ⟨hno, rfl, hps⟩⟩ := hT
        · obtain ⟨st, est, hst⟩ := bs_bytes t.str
          refine ⟨t.kind, t.pos, t.num, st, !(opB st.data.toList), some r, by rw [est], hg7, hps, Lib.hid ?_, Lib.hid ?_, Or.inr rfl⟩
          · show opU sn.data.toList (core t :: r.map core) = _
            unfold opU
            have hk5 : (core t).kind = 5 := by show t.kind = 5; omega
            have hs5 : (core t).str = st.data.toList := by rw [hst]; rfl
            simp only [hk5, hs5, true_and]
            cases opB st.data.toList with
            | false => rfl
            | true =>
              simp only [if_true, Bool.not_true]
              show _ = (valP (r.map core)).map _
              cases valP (r.map core) with
              | none => rfl
              | some v => rfl
          · rw [hst]
            have := (HM5.out t r rfl).2.2.2.2.2.2
            unfold maxLen
            omega
        · refine ⟨0, 0, 0, ⟨#[]⟩, false, none, rfl, hg7, hps, Lib.hid ?_, Lib.hid (by simp), Or.inl rfl⟩
          match x1, hno with
          | none, _ => rfl
          | some [], _ => rfl
          | some (t :: r), hno =>
            show opU sn.data.toList (core t :: r.map core) = none
            unfold opU
            simp only
            rw [if_neg (show ¬ ((core t).kind = 5 ∧ _) from fun h => hno t r rfl (Or.inl h.1))]
      subst he
      have G7 := Lib.hid (G6.out.trans hg7)
      have X7 := Lib.hid (X6.out.gr hg7 (by have := HQ.out; omega))
      have Y7 := Lib.hid (Y6.out.gr hg7 hqp)
      have hpw7 : p < w7.heap.size := hps7.lt
      have hqp' : ¬ q = p := by have := HQ.out; omega
      have CO := Lib.hid (fun W => refOp_any so W)
      have HPP := Lib.hid hps7
      obtain ⟨_, _, _, _, _, _, c2, cf, _, _⟩ := HPP.out
      have cf2 := cf 2
      clear hg7 cf HM5
      cases y0 with
      | none =>
        simp only [Option.isNone_none] at c2
        have PB := Lib.hid (show PS (w7.setCell ⟨p, 2, none⟩ (.bool true)) p z L none from hps7.setBad hz false true rfl)
        have HOT2 := Lib.hid (show (coreX x1).bind (opU sn.data.toList) = ((coreX (none : Option (List Tok))).bind valP).map fun v => (.mk 4 sn.data.toList so.data.toList [v.1] [], v.2) from by have h := HOT.out; cases b <;> exact h)
        obtain ⟨w8, hw8⟩ : ∃ v, v = (((w7.setCell ⟨p, 2, none⟩ (.bool true)).setCell ⟨q, 2, none⟩ (.string so)).alloc (.cells #[.int .i64 ok_, .int .i64 op_, .int .i64 on_, .string so] 76)) := ⟨_, rfl⟩
        have HW8 := Lib.hid hw8
        have P8 := Lib.hid (show PS w8 p z L _ by rw [hw8]; exact (PB.out.setCell hqp' (by have := HQ.out; omega) _).alloc hz _)
        have X8 := Lib.hid (show Bx w8 q (.int .i64 4) (.string sn) (.string so) (.slice none 0 0) (.slice none 0 0) by rw [hw8]; exact ((show Bx (w7.setCell ⟨p, 2, none⟩ (.bool true)) q _ _ _ _ _ from X7.out.same (Below.heap_setCell _ _ _ _ (by simp only; omega))).set2 _).alloc _)
        have Y8 := Lib.hid (show Rw w8 w.heap.size #[.int .i64 0, .string ⟨#[]⟩, .string ⟨#[]⟩, .slice none 0 0, .slice none 0 0] by rw [hw8]; exact ((show Rw (w7.setCell ⟨p, 2, none⟩ (.bool true)) w.heap.size _ from Y7.out.same (Below.heap_setCell _ _ _ _ (by simp only; omega))).same (Below.heap_setCell _ _ _ _ (by have := HQ.out; simp only; omega))).alloc _)
        have G8 := Lib.hid (show w.grownBy w8 (some p) by rw [hw8]; exact gr_alloc (gr_new (gr_set G7.out _) (by have := HQ.out; omega) _) _)
        clear hw8
        obtain ⟨⟨b0, b1, b2, b3, b4⟩, bf⟩ := X7.out
        have bl : q < w7.heap.size := World.block_lt_of_cell? w7 ⟨q, 0, none⟩ b0
        have bf0 := bf 0
        have bf2 := bf 2
        have bf3 := bf 3
        go_wp2_with fail
        rw [← HW8.out]
        clear b0 b1 b2 b3 b4 bf bl bf0 bf2 bf3
        refine Calls.mono (pvalu_any L hl HGT.out _ p z hz _ P8.out) ?_
        rintro e w9 ⟨hg9, u, y, rfl, hps9, hok, hv, hly⟩
        have G9 := Lib.hid (G8.out.trans hg9)
        have X9 := Lib.hid (X8.out.gr hg9 (by have := HQ.out; omega))
        have Y9 := Lib.hid (Y8.out.gr hg9 hqp)
        have P9 := Lib.hid hps9
        have HOK := Lib.hid hok
        have HV := Lib.hid (show (coreX (none : Option (List Tok))).bind valP = (coreX y).map (fun r => (u, r)) from hv)
        have hpw9 : p < w9.heap.size := P9.out.lt
        clear hg9 hok hv hps9
        obtain ⟨vn, evn, _⟩ := bs_bytes u.name
        obtain ⟨vq, evs, _⟩ := bs_bytes u.str
        obtain ⟨vt, hvt⟩ : ∃ x, x = u.text := ⟨_, rfl⟩
        obtain ⟨vm, hvm⟩ : ∃ x, x = u.num := ⟨_, rfl⟩
        have HAC := Lib.hid (show attC u = [.string vn, .bool vt, .int .i64 vm, .string vq] by rw [attC, evn, evs, hvt, hvm])
        have HVT := Lib.hid hvt
        rw [evn, evs, ← hvt, ← hvm]
        clear evn evs hvt hvm
        have XB := X9
        have RB := Y9
        have GB := G9
        have SV := Lib.hid (show LfS w p z L q w9.heap.size #[.string vn, .bool vt, .int .i64 vm, .string vq] 4 sn so (w9.alloc (.cells #[.string vn, .bool vt, .int .i64 vm, .string vq] 47)) _ (.slice none 0 0) [] from by
          have hsz : w9.heap.size = w9.heap.size := by first | rfl | simp [World.setCell]
          refine ⟨(P9.out).alloc hz _, (XB.out).alloc _, (RB.out).alloc _, ?_, gr_alloc GB.out _, World.ownsRow_nil _ _ _ _, hz, hp, by have := HQ.out; omega, by have := X9.out.1.lt; omega, by first | (simp; done) | (simp [World.setCell]; done) | (simp; omega)⟩
          have := R4.new 47 w9 #[.string vn, .bool vt, .int .i64 vm, .string vq]
          rwa [hsz] at this)
        have HOa := Lib.hid (show ((w9.alloc (.cells #[.string vn, .bool vt, .int .i64 vm, .string vq] 47)).alloc (.cells #[.string vn, .bool vt, .int .i64 vm, .string vq] 47)).ownsRow (w9.heap.size + 1) 47 4 (.slice none 0 0) 0 [] from (SV.out.alloc (.cells #[.string vn, .bool vt, .int .i64 vm, .string vq] 47)).own)
        have NW := Lib.hid (show ∀ j v, ([.string vn, .bool vt, .int .i64 vm, .string vq] : List Value)[j]? = some v → ((w9.alloc (.cells #[.string vn, .bool vt, .int .i64 vm, .string vq] 47)).alloc (.cells #[.string vn, .bool vt, .int .i64 vm, .string vq] 47)).cell? ((⟨w9.heap.size + 1, 0, none⟩ : Addr).add j) = some v by
          have := news4 (w9.alloc (.cells #[.string vn, .bool vt, .int .i64 vm, .string vq] 47)) (.string vn) (.bool vt) (.int .i64 vm) (.string vq) 47
          rwa [show (w9.alloc (.cells #[.string vn, .bool vt, .int .i64 vm, .string vq] 47)).heap.size = w9.heap.size + 1 by simp [World.setCell]] at this)
        have HBSz := Lib.hid (show w9.heap.size + 1 ≤ ((w9.alloc (.cells #[.string vn, .bool vt, .int .i64 vm, .string vq] 47)).alloc (.cells #[.string vn, .bool vt, .int .i64 vm, .string vq] 47)).heap.size by have := SV.out.pl; simp [World.setCell] at this ⊢ <;> omega)
        obtain ⟨⟨b0, b1, b2, b3, b4⟩, bf⟩ := X9.out
        have bl : q < w9.heap.size := World.block_lt_of_cell? w9 ⟨q, 0, none⟩ b0
        have bf0 := bf 0
        have bf2 := bf 2
        have bf3 := bf 3
        go_wp2_with (first | (at_builtin; refine wpList_append_own_at _ rfl _ _ 22 rfl (w9.heap.size + 1) 47 i0 (.agg #[.string ⟨#[]⟩, .bool false, .int .i64 0, .string ⟨#[]⟩]) 4 48 Tryz.underlying22 hi hz0 hz1 hz2 rfl (by decide) _ _ _ rfl HOa.out ⟨w9.heap.size + 1, 0, none⟩ 1 1 [.string vn, .bool vt, .int .i64 vm, .string vq] rfl rfl NW.out (by intro u hu; simp at hu; rcases hu with rfl | rfl | rfl | rfl <;> rfl) (by unfold maxLen; omega) (by omega) HBSz.out ?_))
        intro v1 wA hown hgrow _ hat
        have hownU := Lib.hid (show wA.ownsRow (w9.heap.size + 1) 47 4 v1 [u].length (attsC [u]) by rw [show ([u] : List Att) = [] ++ [u] from rfl, attsC_app, HAC.out, List.length_append]; exact hown)
        obtain ⟨g1, cap1, hv1⟩ := own_form hownU.out (by simp)
        subst hv1
        have SA := Lib.hid (LfS.app (SV.out.alloc (.cells #[.string vn, .bool vt, .int .i64 vm, .string vq] 47)) hgrow hownU.out)
        clear hown hgrow hat HOa NW HBSz
        obtain ⟨⟨b0, b1, b2, b3, b4⟩, bf⟩ := SA.out.2
        have bl : q < wA.heap.size := World.block_lt_of_cell? wA ⟨q, 0, none⟩ b0
        have bf3 := bf 3
        go_wp2_with (skip; (refine wpList_store_rowTo rfl _ _ _ rfl rfl w.heap.size _ rfl rfl _ #[.int .i64 0, .string ⟨#[]⟩, .string ⟨#[]⟩, .slice none 0 0, .slice none 0 0] (by first | exact SA.out.1.rw) (by kernel_rfl) rfl (by simp [Value.oneCell']) ?_))
        refine retF Tryz.results90 rfl (SA.out.1.rw.set _).box rfl ?_
        have HRES := show (∃ r, (coreX x).bind leafP = some (.mk 4 sn.data.toList so.data.toList [u] [], r) ∧ coreX y = some r) ∨ ((coreX x).bind leafP = none ∧ y = none) from by
          rw [HT.out, HOT2.out, HV.out]
          cases y with
          | none => exact Or.inr ⟨rfl, rfl⟩
          | some r => exact Or.inl ⟨_, rfl, rfl⟩

        exact SA.out.1.fin (by simp) (ok_one HOK.out) (by first | (unfold maxLen; omega) | (simp [maxLen]; done) | (simp; unfold maxLen; omega)) (by omega) HSN.out (HSO.out) HRES
      | some r0 =>
        simp only [Option.isNone_some] at c2
        have hb2 : b = !(opB so.data.toList) := by rcases hb with h | h; cases h; exact h
        obtain ⟨ob, hob⟩ : ∃ x, x = opB so.data.toList := ⟨_, rfl⟩
        rw [← hob] at CO hb2
        clear hob
        cases ob with
        | true =>
          subst hb2
          have PB := Lib.hid (show PS (w7.setCell ⟨p, 2, none⟩ (.bool false)) p z L (some r0) from hps7.setBad hz false false rfl)
          have HOT2 := Lib.hid (show (coreX x1).bind (opU sn.data.toList) = ((coreX ((some r0) : Option (List Tok))).bind valP).map fun v => (.mk 4 sn.data.toList so.data.toList [v.1] [], v.2) from HOT.out)
          obtain ⟨w8, hw8⟩ : ∃ v, v = (((w7.setCell ⟨p, 2, none⟩ (.bool false)).setCell ⟨q, 2, none⟩ (.string so)).alloc (.cells #[.int .i64 ok_, .int .i64 op_, .int .i64 on_, .string so] 76)) := ⟨_, rfl⟩
          have HW8 := Lib.hid hw8
          have P8 := Lib.hid (show PS w8 p z L _ by rw [hw8]; exact (PB.out.setCell hqp' (by have := HQ.out; omega) _).alloc hz _)
          have X8 := Lib.hid (show Bx w8 q (.int .i64 4) (.string sn) (.string so) (.slice none 0 0) (.slice none 0 0) by rw [hw8]; exact ((show Bx (w7.setCell ⟨p, 2, none⟩ (.bool false)) q _ _ _ _ _ from X7.out.same (Below.heap_setCell _ _ _ _ (by simp only; omega))).set2 _).alloc _)
          have Y8 := Lib.hid (show Rw w8 w.heap.size #[.int .i64 0, .string ⟨#[]⟩, .string ⟨#[]⟩, .slice none 0 0, .slice none 0 0] by rw [hw8]; exact ((show Rw (w7.setCell ⟨p, 2, none⟩ (.bool false)) w.heap.size _ from Y7.out.same (Below.heap_setCell _ _ _ _ (by simp only; omega))).same (Below.heap_setCell _ _ _ _ (by have := HQ.out; simp only; omega))).alloc _)
          have G8 := Lib.hid (show w.grownBy w8 (some p) by rw [hw8]; exact gr_alloc (gr_new (gr_set G7.out _) (by have := HQ.out; omega) _) _)
          clear hw8
          obtain ⟨⟨b0, b1, b2, b3, b4⟩, bf⟩ := X7.out
          have bl : q < w7.heap.size := World.block_lt_of_cell? w7 ⟨q, 0, none⟩ b0
          have bf0 := bf 0
          have bf2 := bf 2
          have bf3 := bf 3
          go_wp2_with fail
          refine Calls.mono (CO.out _) ?_
          rintro e wq ⟨rfl, rfl⟩
          go_wp2_with fail
          rw [← HW8.out]
          clear b0 b1 b2 b3 b4 bf bl bf0 bf2 bf3
          refine Calls.mono (pvalu_any L hl HGT.out _ p z hz _ P8.out) ?_
          rintro e w9 ⟨hg9, u, y, rfl, hps9, hok, hv, hly⟩
          have G9 := Lib.hid (G8.out.trans hg9)
          have X9 := Lib.hid (X8.out.gr hg9 (by have := HQ.out; omega))
          have Y9 := Lib.hid (Y8.out.gr hg9 hqp)
          have P9 := Lib.hid hps9
          have HOK := Lib.hid hok
          have HV := Lib.hid (show (coreX ((some r0) : Option (List Tok))).bind valP = (coreX y).map (fun r => (u, r)) from hv)
          have hpw9 : p < w9.heap.size := P9.out.lt
          clear hg9 hok hv hps9
          obtain ⟨vn, evn, _⟩ := bs_bytes u.name
          obtain ⟨vq, evs, _⟩ := bs_bytes u.str
          obtain ⟨vt, hvt⟩ : ∃ x, x = u.text := ⟨_, rfl⟩
          obtain ⟨vm, hvm⟩ : ∃ x, x = u.num := ⟨_, rfl⟩
          have HAC := Lib.hid (show attC u = [.string vn, .bool vt, .int .i64 vm, .string vq] by rw [attC, evn, evs, hvt, hvm])
          have HVT := Lib.hid hvt
          rw [evn, evs, ← hvt, ← hvm]
          clear evn evs hvt hvm
          have XB := X9
          have RB := Y9
          have GB := G9
          have SV := Lib.hid (show LfS w p z L q w9.heap.size #[.string vn, .bool vt, .int .i64 vm, .string vq] 4 sn so (w9.alloc (.cells #[.string vn, .bool vt, .int .i64 vm, .string vq] 47)) _ (.slice none 0 0) [] from by
            have hsz : w9.heap.size = w9.heap.size := by first | rfl | simp [World.setCell]
            refine ⟨(P9.out).alloc hz _, (XB.out).alloc _, (RB.out).alloc _, ?_, gr_alloc GB.out _, World.ownsRow_nil _ _ _ _, hz, hp, by have := HQ.out; omega, by have := X9.out.1.lt; omega, by first | (simp; done) | (simp [World.setCell]; done) | (simp; omega)⟩
            have := R4.new 47 w9 #[.string vn, .bool vt, .int .i64 vm, .string vq]
            rwa [hsz] at this)
          have HOa := Lib.hid (show ((w9.alloc (.cells #[.string vn, .bool vt, .int .i64 vm, .string vq] 47)).alloc (.cells #[.string vn, .bool vt, .int .i64 vm, .string vq] 47)).ownsRow (w9.heap.size + 1) 47 4 (.slice none 0 0) 0 [] from (SV.out.alloc (.cells #[.string vn, .bool vt, .int .i64 vm, .string vq] 47)).own)
          have NW := Lib.hid (show ∀ j v, ([.string vn, .bool vt, .int .i64 vm, .string vq] : List Value)[j]? = some v → ((w9.alloc (.cells #[.string vn, .bool vt, .int .i64 vm, .string vq] 47)).alloc (.cells #[.string vn, .bool vt, .int .i64 vm, .string vq] 47)).cell? ((⟨w9.heap.size + 1, 0, none⟩ : Addr).add j) = some v by
            have := news4 (w9.alloc (.cells #[.string vn, .bool vt, .int .i64 vm, .string vq] 47)) (.string vn) (.bool vt) (.int .i64 vm) (.string vq) 47
            rwa [show (w9.alloc (.cells #[.string vn, .bool vt, .int .i64 vm, .string vq] 47)).heap.size = w9.heap.size + 1 by simp [World.setCell]] at this)
          have HBSz := Lib.hid (show w9.heap.size + 1 ≤ ((w9.alloc (.cells #[.string vn, .bool vt, .int .i64 vm, .string vq] 47)).alloc (.cells #[.string vn, .bool vt, .int .i64 vm, .string vq] 47)).heap.size by have := SV.out.pl; simp [World.setCell] at this ⊢ <;> omega)
          obtain ⟨⟨b0, b1, b2, b3, b4⟩, bf⟩ := X9.out
          have bl : q < w9.heap.size := World.block_lt_of_cell? w9 ⟨q, 0, none⟩ b0
          have bf0 := bf 0
          have bf2 := bf 2
          have bf3 := bf 3
          go_wp2_with (first | (at_builtin; refine wpList_append_own_at _ rfl _ _ 22 rfl (w9.heap.size + 1) 47 i0 (.agg #[.string ⟨#[]⟩, .bool false, .int .i64 0, .string ⟨#[]⟩]) 4 48 Tryz.underlying22 hi hz0 hz1 hz2 rfl (by decide) _ _ _ rfl HOa.out ⟨w9.heap.size + 1, 0, none⟩ 1 1 [.string vn, .bool vt, .int .i64 vm, .string vq] rfl rfl NW.out (by intro u hu; simp at hu; rcases hu with rfl | rfl | rfl | rfl <;> rfl) (by unfold maxLen; omega) (by omega) HBSz.out ?_))
          intro v1 wA hown hgrow _ hat
          have hownU := Lib.hid (show wA.ownsRow (w9.heap.size + 1) 47 4 v1 [u].length (attsC [u]) by rw [show ([u] : List Att) = [] ++ [u] from rfl, attsC_app, HAC.out, List.length_append]; exact hown)
          obtain ⟨g1, cap1, hv1⟩ := own_form hownU.out (by simp)
          subst hv1
          have SA := Lib.hid (LfS.app (SV.out.alloc (.cells #[.string vn, .bool vt, .int .i64 vm, .string vq] 47)) hgrow hownU.out)
          clear hown hgrow hat HOa NW HBSz
          obtain ⟨⟨b0, b1, b2, b3, b4⟩, bf⟩ := SA.out.2
          have bl : q < wA.heap.size := World.block_lt_of_cell? wA ⟨q, 0, none⟩ b0
          have bf3 := bf 3
          go_wp2_with (skip; (refine wpList_store_rowTo rfl _ _ _ rfl rfl w.heap.size _ rfl rfl _ #[.int .i64 0, .string ⟨#[]⟩, .string ⟨#[]⟩, .slice none 0 0, .slice none 0 0] (by first | exact SA.out.1.rw) (by kernel_rfl) rfl (by simp [Value.oneCell']) ?_))
          refine retF Tryz.results90 rfl (SA.out.1.rw.set _).box rfl ?_
          have HRES := show (∃ r, (coreX x).bind leafP = some (.mk 4 sn.data.toList so.data.toList [u] [], r) ∧ coreX y = some r) ∨ ((coreX x).bind leafP = none ∧ y = none) from by
            rw [HT.out, HOT2.out, HV.out]
            cases y with
            | none => exact Or.inr ⟨rfl, rfl⟩
            | some r => exact Or.inl ⟨_, rfl, rfl⟩

          exact SA.out.1.fin (by simp) (ok_one HOK.out) (by first | (unfold maxLen; omega) | (simp [maxLen]; done) | (simp; unfold maxLen; omega)) (by omega) HSN.out (HSO.out) HRES
        | false =>
          subst hb2
          have PB := Lib.hid (show PS (w7.setCell ⟨p, 2, none⟩ (.bool true)) p z L none from hps7.setBad hz true true rfl)
          have HOT2 := Lib.hid (show (coreX x1).bind (opU sn.data.toList) = ((coreX (none : Option (List Tok))).bind valP).map fun v => (.mk 4 sn.data.toList so.data.toList [v.1] [], v.2) from HOT.out)
          obtain ⟨w8, hw8⟩ : ∃ v, v = (((w7.setCell ⟨p, 2, none⟩ (.bool true)).setCell ⟨q, 2, none⟩ (.string so)).alloc (.cells #[.int .i64 ok_, .int .i64 op_, .int .i64 on_, .string so] 76)) := ⟨_, rfl⟩
          have HW8 := Lib.hid hw8
          have P8 := Lib.hid (show PS w8 p z L _ by rw [hw8]; exact (PB.out.setCell hqp' (by have := HQ.out; omega) _).alloc hz _)
          have X8 := Lib.hid (show Bx w8 q (.int .i64 4) (.string sn) (.string so) (.slice none 0 0) (.slice none 0 0) by rw [hw8]; exact ((show Bx (w7.setCell ⟨p, 2, none⟩ (.bool true)) q _ _ _ _ _ from X7.out.same (Below.heap_setCell _ _ _ _ (by simp only; omega))).set2 _).alloc _)
          have Y8 := Lib.hid (show Rw w8 w.heap.size #[.int .i64 0, .string ⟨#[]⟩, .string ⟨#[]⟩, .slice none 0 0, .slice none 0 0] by rw [hw8]; exact ((show Rw (w7.setCell ⟨p, 2, none⟩ (.bool true)) w.heap.size _ from Y7.out.same (Below.heap_setCell _ _ _ _ (by simp only; omega))).same (Below.heap_setCell _ _ _ _ (by have := HQ.out; simp only; omega))).alloc _)
          have G8 := Lib.hid (show w.grownBy w8 (some p) by rw [hw8]; exact gr_alloc (gr_new (gr_set G7.out _) (by have := HQ.out; omega) _) _)
          clear hw8
          obtain ⟨⟨b0, b1, b2, b3, b4⟩, bf⟩ := X7.out
          have bl : q < w7.heap.size := World.block_lt_of_cell? w7 ⟨q, 0, none⟩ b0
          have bf0 := bf 0
          have bf2 := bf 2
          have bf3 := bf 3
          go_wp2_with fail
          refine Calls.mono (CO.out _) ?_
          rintro e wq ⟨rfl, rfl⟩
          go_wp2_with fail
          rw [← HW8.out]
          clear b0 b1 b2 b3 b4 bf bl bf0 bf2 bf3
          refine Calls.mono (pvalu_any L hl HGT.out _ p z hz _ P8.out) ?_
          rintro e w9 ⟨hg9, u, y, rfl, hps9, hok, hv, hly⟩
          have G9 := Lib.hid (G8.out.trans hg9)
          have X9 := Lib.hid (X8.out.gr hg9 (by have := HQ.out; omega))
          have Y9 := Lib.hid (Y8.out.gr hg9 hqp)
          have P9 := Lib.hid hps9
          have HOK := Lib.hid hok
          have HV := Lib.hid (show (coreX (none : Option (List Tok))).bind valP = (coreX y).map (fun r => (u, r)) from hv)
          have hpw9 : p < w9.heap.size := P9.out.lt
          clear hg9 hok hv hps9
          obtain ⟨vn, evn, _⟩ := bs_bytes u.name
          obtain ⟨vq, evs, _⟩ := bs_bytes u.str
          obtain ⟨vt, hvt⟩ : ∃ x, x = u.text := ⟨_, rfl⟩
          obtain ⟨vm, hvm⟩ : ∃ x, x = u.num := ⟨_, rfl⟩
          have HAC := Lib.hid (show attC u = [.string vn, .bool vt, .int .i64 vm, .string vq] by rw [attC, evn, evs, hvt, hvm])
          have HVT := Lib.hid hvt
          rw [evn, evs, ← hvt, ← hvm]
          clear evn evs hvt hvm
          have XB := X9
          have RB := Y9
          have GB := G9
          have SV := Lib.hid (show LfS w p z L q w9.heap.size #[.string vn, .bool vt, .int .i64 vm, .string vq] 4 sn so (w9.alloc (.cells #[.string vn, .bool vt, .int .i64 vm, .string vq] 47)) _ (.slice none 0 0) [] from by
            have hsz : w9.heap.size = w9.heap.size := by first | rfl | simp [World.setCell]
            refine ⟨(P9.out).alloc hz _, (XB.out).alloc _, (RB.out).alloc _, ?_, gr_alloc GB.out _, World.ownsRow_nil _ _ _ _, hz, hp, by have := HQ.out; omega, by have := X9.out.1.lt; omega, by first | (simp; done) | (simp [World.setCell]; done) | (simp; omega)⟩
            have := R4.new 47 w9 #[.string vn, .bool vt, .int .i64 vm, .string vq]
            rwa [hsz] at this)
          have HOa := Lib.hid (show ((w9.alloc (.cells #[.string vn, .bool vt, .int .i64 vm, .string vq] 47)).alloc (.cells #[.string vn, .bool vt, .int .i64 vm, .string vq] 47)).ownsRow (w9.heap.size + 1) 47 4 (.slice none 0 0) 0 [] from (SV.out.alloc (.cells #[.string vn, .bool vt, .int .i64 vm, .string vq] 47)).own)
          have NW := Lib.hid (show ∀ j v, ([.string vn, .bool vt, .int .i64 vm, .string vq] : List Value)[j]? = some v → ((w9.alloc (.cells #[.string vn, .bool vt, .int .i64 vm, .string vq] 47)).alloc (.cells #[.string vn, .bool vt, .int .i64 vm, .string vq] 47)).cell? ((⟨w9.heap.size + 1, 0, none⟩ : Addr).add j) = some v by
            have := news4 (w9.alloc (.cells #[.string vn, .bool vt, .int .i64 vm, .string vq] 47)) (.string vn) (.bool vt) (.int .i64 vm) (.string vq) 47
            rwa [show (w9.alloc (.cells #[.string vn, .bool vt, .int .i64 vm, .string vq] 47)).heap.size = w9.heap.size + 1 by simp [World.setCell]] at this)
          have HBSz := Lib.hid (show w9.heap.size + 1 ≤ ((w9.alloc (.cells #[.string vn, .bool vt, .int .i64 vm, .string vq] 47)).alloc (.cells #[.string vn, .bool vt, .int .i64 vm, .string vq] 47)).heap.size by have := SV.out.pl; simp [World.setCell] at this ⊢ <;> omega)
          obtain ⟨⟨b0, b1, b2, b3, b4⟩, bf⟩ := X9.out
          have bl : q < w9.heap.size := World.block_lt_of_cell? w9 ⟨q, 0, none⟩ b0
          have bf0 := bf 0
          have bf2 := bf 2
          have bf3 := bf 3
          go_wp2_with (first | (at_builtin; refine wpList_append_own_at _ rfl _ _ 22 rfl (w9.heap.size + 1) 47 i0 (.agg #[.string ⟨#[]⟩, .bool false, .int .i64 0, .string ⟨#[]⟩]) 4 48 Tryz.underlying22 hi hz0 hz1 hz2 rfl (by decide) _ _ _ rfl HOa.out ⟨w9.heap.size + 1, 0, none⟩ 1 1 [.string vn, .bool vt, .int .i64 vm, .string vq] rfl rfl NW.out (by intro u hu; simp at hu; rcases hu with rfl | rfl | rfl | rfl <;> rfl) (by unfold maxLen; omega) (by omega) HBSz.out ?_))
          intro v1 wA hown hgrow _ hat
          have hownU := Lib.hid (show wA.ownsRow (w9.heap.size + 1) 47 4 v1 [u].length (attsC [u]) by rw [show ([u] : List Att) = [] ++ [u] from rfl, attsC_app, HAC.out, List.length_append]; exact hown)
          obtain ⟨g1, cap1, hv1⟩ := own_form hownU.out (by simp)
          subst hv1
          have SA := Lib.hid (LfS.app (SV.out.alloc (.cells #[.string vn, .bool vt, .int .i64 vm, .string vq] 47)) hgrow hownU.out)
          clear hown hgrow hat HOa NW HBSz
          obtain ⟨⟨b0, b1, b2, b3, b4⟩, bf⟩ := SA.out.2
          have bl : q < wA.heap.size := World.block_lt_of_cell? wA ⟨q, 0, none⟩ b0
          have bf3 := bf 3
          go_wp2_with (skip; (refine wpList_store_rowTo rfl _ _ _ rfl rfl w.heap.size _ rfl rfl _ #[.int .i64 0, .string ⟨#[]⟩, .string ⟨#[]⟩, .slice none 0 0, .slice none 0 0] (by first | exact SA.out.1.rw) (by kernel_rfl) rfl (by simp [Value.oneCell']) ?_))
          refine retF Tryz.results90 rfl (SA.out.1.rw.set _).box rfl ?_
          have HRES := show (∃ r, (coreX x).bind leafP = some (.mk 4 sn.data.toList so.data.toList [u] [], r) ∧ coreX y = some r) ∨ ((coreX x).bind leafP = none ∧ y = none) from by
            rw [HT.out, HOT2.out, HV.out]
            cases y with
            | none => exact Or.inr ⟨rfl, rfl⟩
            | some r => exact Or.inl ⟨_, rfl, rfl⟩

          exact SA.out.1.fin (by simp) (ok_one HOK.out) (by first | (unfold maxLen; omega) | (simp [maxLen]; done) | (simp; unfold maxLen; omega)) (by omega) HSN.out (HSO.out) HRES
end Go.Proofs.YtjffnjiggcfhcaaGreatDoor.Fl
