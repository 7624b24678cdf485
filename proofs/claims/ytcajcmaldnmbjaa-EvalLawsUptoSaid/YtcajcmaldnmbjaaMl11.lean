/-
  The statement EvalLaws (second form) holds: not not f holds as f, not of all is one not, what doesn't name an attribute doesn't hang on it (P9.2). For every input of bulk at most 1,048,576; the first form is false by size.
-/
import Derived.Test.YtcajcmaldnmbjaaMl05
import Derived.Test.YtcajcmaldnmbjaaRows
import Derived.Test.YtcajcmaldnmbjaaMl04
import Derived.Test.YtcajcmaldnmbjaaMl02
import Derived.Test.YtcajcmaldnmbjaaMl10
import Derived.WalkKit
import Derived.ProofKit
import Derived.OpenShut
import Derived.ChangeOld
import Derived.Below
import Derived.ChangeSame
import Derived.JoinedOf
import Derived.JoinedAt
import Derived.Lib.SmallJoins
import Derived.JoinedCond
/-
  Arguments that are slices of strings, of bools, of attributes, opened. No function of the program here.
-/
namespace Go.Proofs.Ytcajcmaldnmbjaa.Ck
open Go.RowKit Go.ChangeShapes Go.WideShapes Go.Deep Go.Joins Go.Proofs.Ytcajcmaldnmbjaa.Fl
set_option linter.unusedVariables false
set_option linter.unusedSectionVars false
section
variable {H : Type} {enc : TypeId × Value → H} {P : Program} {w : World} {base b0 : Nat} {spare : Nat → Bool} {held : Bool} {r : Reach} {v : Value} {d : DataW H} {p : List MemPlace}
theorem open_nmsV {t e : TypeId} (ht : P.underlying t = some (.slice e)) (he : P.underlying e = some .string) (hc : P.cellsOf e = 1) (hv : Value.okWide P w r b0 t v) (h : DataW.Trod enc P w base spare held t v d p) :
    ∃ (l : List Nm) (a : Option Addr) (c : Nat), v = .slice a l.length c ∧ NmsAt w (Old w.heap.size) a l := by
  obtain ⟨x, n, c, rfl⟩ := okWide_slice ht hv
  obtain ⟨fuel, hf⟩ := h
  obtain ⟨l, a, c', e, hq⟩ := open_nms ht he hc hf
  refine ⟨l, a, c', ?_, hq⟩
  simp [Value.cells] at e
  obtain ⟨rfl, rfl, rfl⟩ := e
  rfl
theorem open_blsV {t e : TypeId} (ht : P.underlying t = some (.slice e)) (he : P.underlying e = some .bool) (hc : P.cellsOf e = 1) (hv : Value.okWide P w r b0 t v) (h : DataW.Trod enc P w base spare held t v d p) :
    ∃ (l : List Bool) (a : Option Addr) (c : Nat), v = .slice a l.length c ∧ BlsAt w (Old w.heap.size) a l := by
  obtain ⟨x, n, c, rfl⟩ := okWide_slice ht hv
  obtain ⟨fuel, hf⟩ := h
  obtain ⟨l, a, c', e, hq⟩ := open_bls ht he hc hf
  refine ⟨l, a, c', ?_, hq⟩
  simp [Value.cells] at e
  obtain ⟨rfl, rfl, rfl⟩ := e
  rfl
theorem open_attsV {tF tA tL tVs : TypeId} {f0 f1 f2 f3 f4 a0 a1 a2 a3 : Field} (T : Types P tF tA tL tVs f0 f1 f2 f3 f4 a0 a1 a2 a3) (hv : Value.okWide P w r b0 tVs v) (h : DataW.Trod enc P w base spare held tVs v d p) :
    ∃ (l : List Att) (a : Option Addr) (c : Nat), v = .slice a l.length c ∧ AttsAt w (Old w.heap.size) a l := by
  obtain ⟨x, n, c, rfl⟩ := okWide_slice T.vals hv
  obtain ⟨fuel, hf⟩ := h
  obtain ⟨l, a, c', e, hq⟩ := open_atts T hf
  refine ⟨l, a, c', ?_, hq⟩
  simp [Value.cells] at e
  obtain ⟨rfl, rfl, rfl⟩ := e
  rfl
end
end Go.Proofs.Ytcajcmaldnmbjaa.Ck
/-
  An argument that is a filter, opened: the tree that it is, and how much it holds at least. No function of the program here.
-/
namespace Go.Proofs.Ytcajcmaldnmbjaa.Ck
open Go.RowKit Go.ChangeShapes Go.WideShapes Go.Deep Go.Joins Go.Proofs.Ytcajcmaldnmbjaa.Fl
set_option linter.unusedVariables false
set_option linter.unusedSectionVars false

mutual
/-- Its nodes, and the bytes of their names. -/
def bnd : Flt → Nat
  | .mk _ n _ _ l => n.length + 1 + bndL l
def bndL : List Flt → Nat
  | [] => 0
  | p :: r => bnd p + bndL r
end
mutual
theorem bnd_nms : ∀ f : Flt, (nms f).length ≤ bnd f ∧ ∀ x ∈ nms f, x.length ≤ bnd f
  | .mk k n o vs ps => by
    obtain ⟨h1, h2⟩ := bnd_nmsL ps
    rw [nms, bnd]
    refine ⟨?_, fun x hx => ?_⟩
    · rw [List.length_append]
      split <;> simp <;> omega
    · rw [List.mem_append] at hx
      rcases hx with hx | hx
      · split at hx
        · simp at hx
        · simp at hx
          subst hx
          omega
      · have := h2 x hx
        omega
theorem bnd_nmsL : ∀ ps : List Flt, (nmsL ps).length ≤ bndL ps ∧ ∀ x ∈ nmsL ps, x.length ≤ bndL ps
  | [] => ⟨by simp [nmsL], fun x hx => by simp [nmsL] at hx⟩
  | p :: r => by
    obtain ⟨h1, h2⟩ := bnd_nms p
    obtain ⟨h3, h4⟩ := bnd_nmsL r
    rw [nmsL, bndL]
    refine ⟨by rw [List.length_append]; omega, fun x hx => ?_⟩
    rw [List.mem_append] at hx
    rcases hx with hx | hx
    · have := h2 x hx; omega
    · have := h4 x hx; omega
end
theorem bndL_le {H : Type} : ∀ (l : List Flt) (ds : List (DataW H)), l.length = ds.length → (∀ (k : Nat) (h : k < l.length) (h2 : k < ds.length), bnd l[k] ≤ Rows.uptoBulk ds[k]) → bndL l ≤ Rows.uptoBulkAll ds
  | [], [], _, _ => by simp [bndL]
  | p :: r, d :: ds, hl, h => by
    have h0 := h 0 (by simp) (by simp)
    have h1 := bndL_le r ds (by simpa using hl) (fun k hk hk2 => h (k + 1) (by simpa using hk) (by simpa using hk2))
    simp only [List.getElem_cons_zero] at h0
    simp only [bndL, Rows.uptoBulkAll]
    omega
  | [], d :: ds, hl, _ => by simp at hl
  | p :: r, [], hl, _ => by simp at hl
section
variable {H : Type} {enc : TypeId × Value → H} {P : Program} {w : World} {base : Nat} {spare : Nat → Bool} {held : Bool}
variable {tF tA tL tVs : TypeId} {f0 f1 f2 f3 f4 a0 a1 a2 a3 : Field}
theorem open_parts {t : TypeId} (ht : P.underlying t = some (.slice tF)) (hc : P.cellsOf tF = 5) {fuel : Nat} {cs : List Value} {x : DataW H × List MemPlace} (h : DataW.trod enc P w base spare held fuel t cs = some x)
    (ih : ∀ m, m < fuel → ∀ cs' x', DataW.trod enc P w base spare held m tF cs' = some x' → ∃ (f : Flt) (a : Option Addr) (c : Nat) (b : Option Addr) (d : Nat), cs' = fltC f a c b d ∧ FltAt w (Old w.heap.size) f a b ∧ bnd f ≤ Rows.uptoBulk x'.1) :
    ∃ (l : List Flt) (a : Option Addr) (cap : Nat), cs = [.slice a l.length cap] ∧ l.length ≤ maxLen ∧
      (0 < l.length → ∃ g o, a = some ⟨g, o, none⟩ ∧ g < w.heap.size ∧ ∀ (k : Nat) (hk : k < l.length), ∃ cs', (∃ (a : Option Addr) (c : Nat) (b : Option Addr) (d : Nat), cs' = fltC l[k] a c b d ∧ FltAt w (Old w.heap.size) l[k] a b) ∧ ∀ i, i < 5 → w.cell? ⟨g, o + k * 5 + i, none⟩ = cs'[i]?) ∧ bndL l ≤ Rows.uptoBulk x.1 := by
  rcases DataW.trod_slice ht h with ⟨rfl, rfl⟩ | ⟨a, len, cap, elems, rest, n, rfl, rfl, rfl, hb, hl, hm, hel, hx, _, _⟩
  · exact ⟨[], none, 0, rfl, Nat.zero_le _, fun h => by simp at h, by simp [bndL]⟩
  · have each : ∀ i, i < len → ∃ v : Flt, ∃ cs', w.cells? base (a.add (i * 5)) 5 = some cs' ∧ (∃ (a : Option Addr) (c : Nat) (b : Option Addr) (d : Nat), cs' = fltC v a c b d ∧ FltAt w (Old w.heap.size) v a b) ∧ ∀ y, elems[i]? = some y → bnd v ≤ Rows.uptoBulk y.1 := by
      intro i hi
      have h1 := hx i hi
      rw [hc, List.getElem?_eq_getElem (by omega)] at h1
      obtain ⟨cs', h2, h3⟩ := Option.bind_eq_some_iff.1 h1
      obtain ⟨f, a', c', b', d', e1, e2, e3⟩ := ih n (by omega) cs' _ h3
      exact ⟨f, cs', h2, ⟨a', c', b', d', e1, e2⟩, fun y hy => by rw [List.getElem?_eq_getElem (by omega)] at hy; cases hy; exact e3⟩
    obtain ⟨V, hV⟩ := choose_lt each
    refine ⟨(List.range len).map V, some a, cap, by simp, by simp; omega, fun hp => ?_, ?_⟩
    · simp only [List.length_map, List.length_range] at hp
      have hs : a.spot = none ∧ a.block < w.heap.size := by
        obtain ⟨cs', h2, h3⟩ := hV 0 hp
        obtain ⟨_, hl2, hc2⟩ := World.cells?_some h2
        have h4 := hc2 0 (by omega)
        rw [List.getElem?_eq_getElem (by omega)] at h4
        simp only [Nat.zero_mul, Addr.add] at h4
        simp only [if_true] at h4
        exact ⟨World.cell?_spot h4, World.block_lt_of_cell? w a h4⟩
      obtain ⟨g, o, s⟩ := a
      obtain ⟨hs1, hs2⟩ := hs
      simp only at hs1
      subst hs1
      refine ⟨g, o, rfl, hs2, fun k hk => ?_⟩
      simp only [List.length_map, List.length_range] at hk
      obtain ⟨cs', h2, h3, _⟩ := hV k hk
      refine ⟨cs', by simpa using h3, fun i hi => ?_⟩
      have h4 := (World.cells?_some h2).2.2 i hi
      rw [add_plain, add_plain] at h4
      exact h4
    · show bndL ((List.range len).map V) ≤ Rows.uptoBulk (.slice (elems.map (·.1)) (rest.map (·.1)))
      have := bndL_le ((List.range len).map V) (elems.map (·.1)) (by simp [hel]) (fun k hk hk2 => by
        simp only [List.length_map, List.length_range] at hk
        obtain ⟨cs', h2, h3, h4⟩ := hV k hk
        simpa using h4 elems[k] (List.getElem?_eq_getElem (by omega)))
      simp only [Rows.uptoBulk]
      omega
theorem open_bulk_cells (T : Types P tF tA tL tVs f0 f1 f2 f3 f4 a0 a1 a2 a3) : ∀ (fuel : Nat) (cs : List Value) (x : DataW H × List MemPlace), DataW.trod enc P w base spare held fuel tF cs = some x →
    ∃ (f : Flt) (a : Option Addr) (c : Nat) (b : Option Addr) (d : Nat), cs = fltC f a c b d ∧ FltAt w (Old w.heap.size) f a b ∧ bnd f ≤ Rows.uptoBulk x.1 := by
  intro fuel
  induction fuel using Nat.strongRecOn with
  | _ fuel ih =>
    intro cs x h
    obtain ⟨xs, n, rfl, hxe, hl, hlen, hf⟩ := DataW.trod_struct T.filter h
    obtain ⟨o0, k0⟩ := hone_of T.fone 0 f0 rfl
    obtain ⟨o1, k1⟩ := hone_of T.fone 1 f1 rfl
    obtain ⟨o2, k2⟩ := hone_of T.fone 2 f2 rfl
    obtain ⟨o3, k3⟩ := hone_of T.fone 3 f3 rfl
    obtain ⟨o4, k4⟩ := hone_of T.fone 4 f4 rfl
    obtain ⟨c0, c1, c2, c3, c4, rfl⟩ := list5 (hl.trans T.fcells)
    have g := fun i (f : Field) (hi : #[f0, f1, f2, f3, f4][i]? = some f) => hf i f hi
    have g0 := g 0 f0 rfl
    have g1 := g 1 f1 rfl
    have g2 := g 2 f2 rfl
    have g3 := g 3 f3 rfl
    have g4 := g 4 f4 rfl
    have hxl : xs.length = 5 := hlen
    rw [List.getElem?_eq_getElem (by omega)] at g0 g1 g2 g3 g4
    rw [T.t3] at g3
    rw [T.t4] at g4
    obtain ⟨n0, e0, _, z0⟩ := DataW.trod_int T.u0 g0
    obtain ⟨s1, e1, hx1, z1⟩ := DataW.trod_string T.u1 g1
    obtain ⟨s2, e2, _, z2⟩ := DataW.trod_string T.u2 g2
    obtain ⟨vs, a, c, e3, hvs⟩ := open_atts T g3
    obtain ⟨ps, b, d, e4, hpl, hps, hbd⟩ := open_parts (tF := tF) T.parts T.fcells g4 (fun m hm cs' x' h' => ih m (by omega) cs' x' h')
    simp [o0, k0] at e0
    simp [o1, k1] at e1
    simp [o2, k2] at e2
    rw [← T.t3] at e3
    rw [← T.t4] at e4
    simp [o3, k3] at e3
    simp [o4, k4] at e4
    subst e0 e1 e2 e3 e4
    obtain ⟨y0, y1, y2, y3, y4, rfl⟩ : ∃ y0 y1 y2 y3 y4, xs = [y0, y1, y2, y3, y4] := by
      match xs, hxl with
      | [y0, y1, y2, y3, y4], _ => exact ⟨y0, y1, y2, y3, y4, rfl⟩
    have w1 : y1.1 = .lit (.string s1.data.toList) := congrArg Prod.fst hx1
    have w4 : bndL ps ≤ Rows.uptoBulk y4.1 := hbd
    refine ⟨.mk n0 s1.data.toList s2.data.toList vs ps, a, c, b, d, ?_, FltAt.mk' ⟨by rw [Flt.name, size_list]; exact z1, by rw [Flt.op, size_list]; exact z2, (bounds_i64 z0).1, (bounds_i64 z0).2, hpl⟩ hvs (PartsAt.mk' fun k hk => ?_), ?_⟩
    · simp only [fltC, Flt.kind, Flt.name, Flt.op, Flt.vals, Flt.parts, bs_list]
    · obtain ⟨g, o, e, hg, hq⟩ := hps (Nat.lt_of_le_of_lt (Nat.zero_le _) hk)
      obtain ⟨cs', ⟨a', c', b', d', rfl, h6⟩, h7⟩ := hq k hk
      refine ⟨g, o, a', c', b', d', e, hg, ?_, h6⟩
      rw [Nat.zero_add]
      show Five w g (o + k * 5) ps[k] a' c' b' d'
      exact ⟨by have q := h7 0 (by omega); revert q; simp [fltC], by have q := h7 1 (by omega); revert q; simp [fltC], by have q := h7 2 (by omega); revert q; simp [fltC], by have q := h7 3 (by omega); revert q; simp [fltC], by have q := h7 4 (by omega); revert q; simp [fltC]⟩
    · rw [hxe]
      show bnd (.mk n0 s1.data.toList s2.data.toList vs ps) ≤ Rows.uptoBulk (.agg ([y0, y1, y2, y3, y4].map (·.1)))
      simp only [List.map_cons, List.map_nil, Rows.uptoBulk, Rows.uptoBulkAll, w1, bnd]
      omega
/-- An argument that is a filter. -/
theorem open_bulk (T : Types P tF tA tL tVs f0 f1 f2 f3 f4 a0 a1 a2 a3) {r : Reach} {b0 : Nat} {v : Value} {dd : DataW H} {p : List MemPlace} (hv : Value.okWide P w r b0 tF v) (h : DataW.Trod enc P w base spare held tF v dd p) :
    ∃ (f : Flt) (a : Option Addr) (c : Nat) (b : Option Addr) (d : Nat), v = .agg #[.int .i64 f.kind, bs f.name, bs f.op, .slice a f.vals.length c, .slice b f.parts.length d] ∧ FltAt w (Old w.heap.size) f a b ∧ bnd f ≤ Rows.uptoBulk dd := by
  obtain ⟨cs, rfl, hsz⟩ := okWide_struct T.filter hv
  obtain ⟨fuel, hf⟩ := h
  obtain ⟨f, a, c, b, d, e, h1⟩ := open_bulk_cells T fuel _ _ hf
  refine ⟨f, a, c, b, d, ?_, h1⟩
  have e2 : cs.toList = fltC f a c b d := by simpa [Value.cells] using e
  have e3 : cs = (fltC f a c b d).toArray := by rw [← e2]
  rw [e3]
  rfl
end
end Go.Proofs.Ytcajcmaldnmbjaa.Ck
/-
  An argument that is one attribute, opened. No function of the program here.
-/
namespace Go.Proofs.Ytcajcmaldnmbjaa.Ev
open Go.RowKit Go.ChangeShapes Go.WideShapes Go.Deep Go.Joins Go.Proofs.Ytcajcmaldnmbjaa.Fl
set_option linter.unusedVariables false
variable {H : Type} {enc : TypeId × Value → H} {P : Program} {w : World} {base b0 : Nat} {spare : Nat → Bool} {held : Bool} {r : Reach} {v : Value} {d : DataW H} {p : List MemPlace}
theorem open_attV {tF tA tL tVs : TypeId} {f0 f1 f2 f3 f4 a0 a1 a2 a3 : Field} (T : Types P tF tA tL tVs f0 f1 f2 f3 f4 a0 a1 a2 a3) (hv : Value.okWide P w r b0 tA v) (h : DataW.Trod enc P w base spare held tA v d p) :
    ∃ m : Att, v = .agg #[bs m.name, .bool m.text, .int .i64 m.num, bs m.str] ∧ attOk m := by
  obtain ⟨cs, rfl, hn⟩ := okWide_struct T.attr hv
  obtain ⟨fuel, hf⟩ := h
  obtain ⟨m, e, hm⟩ := open_att T hf
  refine ⟨m, ?_, hm⟩
  congr 1
  apply Array.ext'
  simpa [Value.cells, attC] using e
end Go.Proofs.Ytcajcmaldnmbjaa.Ev
namespace Go.Proofs.Ytcajcmaldnmbjaa.evalLaws
open Go.ChangeShapes Go.WideShapes Go.ChangeAt Go.RowKit Go.Joins
set_option linter.unusedVariables false

theorem own : ownKnob Try.prog.godebug = none := by kernel_rfl
theorem laidOut : laidOutB Try.prog = true := by kernel_rfl

set_option maxHeartbeats 1000000 in
set_option maxRecDepth 100000 in
theorem lifted (os : Os) (started : os.Started) (H : Type) (enc : TypeId × Value → H) (F : Stop.Interp) :
    ReturnsInHanded {} Try.checked os 4 .any ((Rows.OpenSpec.upto Rows.evalLawsSpec).pre6 enc Try.prog Try.f4 Rows.evalLawsUptoRow.domain false) (((Rows.OpenSpec.upto Rows.evalLawsSpec).at F).post enc Try.prog Try.f4 false true false false) := by
  refine returnsInHanded_of_cond (C := Try.checked) (s := Rows.OpenSpec.upto Rows.evalLawsSpec) (k := Rows.uptoSmall) rfl own started (by kernel_rfl) Try.func4
    (OpenSpec.witness (enc := enc) (C := Try.checked) (s := Rows.OpenSpec.upto Rows.evalLawsSpec) (k := Rows.uptoSmall) rfl false ⟨#[], #[.agg #[.int .i64 0, .string ⟨#[]⟩, .string ⟨#[]⟩, .slice none 0 0, .slice none 0 0], .agg #[.int .i64 0, .string ⟨#[]⟩, .string ⟨#[]⟩, .slice none 0 0, .slice none 0 0], .slice none 0 0, .agg #[.string ⟨#[]⟩, .bool false, .int .i64 0, .string ⟨#[]⟩]], []⟩ 8 (by kernel_rfl) (by kernel_rfl) (by kernel_rfl)
      (x := ([.agg [.lit (.int .i64 0), .lit (.string []), .lit (.string []), .nil, .nil], .agg [.lit (.int .i64 0), .lit (.string []), .lit (.string []), .nil, .nil], .nil, .agg [.lit (.string []), .lit (.bool false), .lit (.int .i64 0), .lit (.string [])]], [], [])) (by kernel_rfl) rfl (by kernel_rfl)) ?_
  intro W base args ds gs before hval0 hW _ hk _
  have hval : ∀ (j : Nat) t v, Try.f4.params[j]? = some t → args[j]? = some v → Value.okWide Try.prog W .any base t v := hval0
  have hW' := hW
  obtain ⟨p, q, hA0, hV, rfl, hfz, hnd⟩ := hW
  have hA : DataW.TrodAll enc Try.prog W 0 (fun _ => true) true Try.f4.params.toList args.toList ds p := hA0
  rw [Try.params4] at hA hval
  obtain ⟨v0, vs0, d0, ds0, p0, q0, hargs, rfl, rfl, h0, r0⟩ := trodAll_cons hA
  obtain ⟨v1, vs1, d1, ds1, p1, q1, rfl, rfl, rfl, h1, r1⟩ := trodAll_cons r0
  obtain ⟨v2, vs2, d2, ds2, p2, q2, rfl, rfl, rfl, h2, r2⟩ := trodAll_cons r1
  obtain ⟨v3, vs3, d3, ds3, p3, q3, rfl, rfl, rfl, h3, r3⟩ := trodAll_cons r2
  obtain ⟨rfl, rfl, rfl⟩ := trodAll_nil r3
  obtain rfl : args = #[v0, v1, v2, v3] := by cases args; simp_all
  obtain ⟨rfl, rfl⟩ := trodVars_none hV
  have hbk : Rows.uptoBulk d0 ≤ 1048576 := by
    have h : Rows.uptoBulkAll ([d0, d1, d2, d3] ++ []) ≤ 1048576 := of_decide_eq_true hk
    simp only [List.append_nil, Rows.uptoBulkAll] at h
    omega
  have k0 := h0
  have lt0 : ∀ x ∈ p0, x.block < W.heap.size := by obtain ⟨m, hm⟩ := k0; exact DataW.trod_lt m _ _ _ hm
  obtain ⟨f0, a0, c0, b0, e0, rfl, hf0, hbd⟩ := Ck.open_bulk (tF := 25) (tA := 31) (tL := 23) (tVs := 22) ⟨Try.underlying25, by kernel_rfl, by kernel_rfl, Try.underlying3, Try.underlying9, Try.underlying9, rfl, rfl, Try.underlying22, Try.underlying23, Try.underlying31, by kernel_rfl, by kernel_rfl, Try.underlying9, Try.underlying4, Try.underlying2, Try.underlying9⟩ (hval 0 25 v0 rfl rfl) h0
  have k1 := h1
  have lt1 : ∀ x ∈ p1, x.block < W.heap.size := by obtain ⟨m, hm⟩ := k1; exact DataW.trod_lt m _ _ _ hm
  obtain ⟨f1, a1, c1, b1, e1, rfl, hf1⟩ := Fl.open_flt (tF := 25) (tA := 31) (tL := 23) (tVs := 22) ⟨Try.underlying25, by kernel_rfl, by kernel_rfl, Try.underlying3, Try.underlying9, Try.underlying9, rfl, rfl, Try.underlying22, Try.underlying23, Try.underlying31, by kernel_rfl, by kernel_rfl, Try.underlying9, Try.underlying4, Try.underlying2, Try.underlying9⟩ (hval 1 25 v1 rfl rfl) h1
  have k2 := h2
  have lt2 : ∀ x ∈ p2, x.block < W.heap.size := by obtain ⟨m, hm⟩ := k2; exact DataW.trod_lt m _ _ _ hm
  obtain ⟨f2, a2, c2, rfl, hf2⟩ := Ck.open_attsV (tF := 25) (tA := 31) (tL := 23) (tVs := 22) ⟨Try.underlying25, by kernel_rfl, by kernel_rfl, Try.underlying3, Try.underlying9, Try.underlying9, rfl, rfl, Try.underlying22, Try.underlying23, Try.underlying31, by kernel_rfl, by kernel_rfl, Try.underlying9, Try.underlying4, Try.underlying2, Try.underlying9⟩ (hval 2 22 v2 rfl rfl) h2
  have k3 := h3
  have lt3 : ∀ x ∈ p3, x.block < W.heap.size := by obtain ⟨m, hm⟩ := k3; exact DataW.trod_lt m _ _ _ hm
  obtain ⟨f3, rfl, hf3⟩ := Ev.open_attV (tF := 25) (tA := 31) (tL := 23) (tVs := 22) ⟨Try.underlying25, by kernel_rfl, by kernel_rfl, Try.underlying3, Try.underlying9, Try.underlying9, rfl, rfl, Try.underlying22, Try.underlying23, Try.underlying31, by kernel_rfl, by kernel_rfl, Try.underlying9, Try.underlying4, Try.underlying2, Try.underlying9⟩ (hval 3 31 v3 rfl rfl) h3
  clear hA0 hval0
  refine (Ev.lawLaws f0 a0 c0 b0 e0 f1 a1 c1 b1 e1 f2 a2 c2 f3 W hf0 hf1 hf2 hf3 (by have := (Ck.bnd_nms f0).1; omega) (fun x hx => by have := (Ck.bnd_nms f0).2 x hx; omega)).mono fun e W' ⟨he, bel⟩ => ?_
  subst he
  exact ⟨_, rfl, _, _, _, [], _, [], hW', trodAll_mk1 (shut_bool Try.underlying4 _), (trodAll_cons_mk (Below.trod laidOut (by kernel_rfl) (of_decide_eq_true (by kernel_rfl)) k0 bel lt0) (trodAll_cons_mk (Below.trod laidOut (by kernel_rfl) (of_decide_eq_true (by kernel_rfl)) k1 bel lt1) (trodAll_cons_mk (Below.trod laidOut (by kernel_rfl) (of_decide_eq_true (by kernel_rfl)) k2 bel lt2) (trodAll_cons_mk (Below.trod laidOut (by kernel_rfl) (of_decide_eq_true (by kernel_rfl)) k3 bel lt3) trodAll_mk0)))), rfl, bel.frame _, fun h => by cases h⟩

theorem over : Rows.evalLawsUptoRow.holds Try.pinned (Rows.OpenSpec.upto Rows.evalLawsSpec) :=
  OpenClaim.holds_of_cond 4 Try.f4 rfl rfl rfl rfl rfl rfl rfl ⟨rfl, rfl, rfl, rfl, rfl⟩ rfl rfl rfl rfl rfl (by kernel_rfl) Try.func4 (by kernel_rfl)
    (of_decide_eq_true (by kernel_rfl)) (by unfold Func.isWrapper; first | (rw [if_pos (by decide +kernel)]; kernel_rfl) | (rw [if_neg (by decide +kernel)]; exact ⟨rfl, rfl⟩))
    (fun os started H enc _ F => lifted os started H enc F)

theorem proved : Rows.EvalLawsUptoSaid := over
#print axioms proved
end Go.Proofs.Ytcajcmaldnmbjaa.evalLaws
