/-
  For every schema and filter the law CheckTells returns true (what is told of a filter by a schema, and the names in it, are the document's, where the arguments hold at most 1048576 values and letters), and the arguments read behind the call as they read before. Condition: the five variables of Go's library that the row lists hold what the program's own text lays there; the card ties them to that text.
-/
import Derived.Test.YtmfkpoojfpepaaaGreatDoorRows
import Derived.Test.YtmfkpoojfpepaaaGreatDoorMp09
import Derived.Test.YtmfkpoojfpepaaaGreatDoorMp02
import Derived.Test.YtmfkpoojfpepaaaGreatDoorCards
import Derived.Test.YtmfkpoojfpepaaaGreatDoorTie
import Derived.Test.YtmfkpoojfpepaaaGreatDoorMt03
import Derived.Test.YtmfkpoojfpepaaaGreatDoorMp15
import Derived.WalkKit
import Derived.ProofKit
import Derived.OpenShut
import Derived.ChangeOld
import Derived.Below
import Derived.ChangeSame
import Derived.ChangeMaps5
import Derived.JoinedOf
import Derived.JoinedAt
import Derived.Lib.SmallJoins
import Derived.LaidMore
import Derived.LaidLaws
import Derived.Stop.LaidErr
import Derived.Stop.Joined
import Derived.SevenTiedAt
import Derived.Deep.DeepWitnessRowRef
/-
  An argument that is a filter, opened: the tree that it is, and how much it holds at least. No function of the program here.
-/
namespace Go.Proofs.YtmfkpoojfpepaaaGreatDoor.Ck
open Go.RowKit Go.ChangeShapes Go.WideShapes Go.Deep Go.Joins Go.Proofs.YtmfkpoojfpepaaaGreatDoor.Fl
set_option linter.unusedVariables false
set_option linter.unusedSectionVars false

mutual
/-- Its nodes, and the bytes of their names. -/
def bnd : Flt → Nat
  | .mk _ n _ _ l => n.length + 1 + bndL l
def bndL : List Flt → Nat
  | [] => 0
  | p :: r => bnd p + bndL r
end
mutual
theorem bnd_nms : ∀ f : Flt, (nms f).length ≤ bnd f ∧ ∀ x ∈ nms f, x.length ≤ bnd f
  | .mk k n o vs ps => by
    obtain ⟨h1, h2⟩ := bnd_nmsL ps
    rw [nms, bnd]
    refine ⟨?_, fun x hx => ?_⟩
    · rw [List.length_append]
      split <;> simp <;> omega
    · rw [List.mem_append] at hx
      rcases hx with hx | hx
      · split at hx
        · simp at hx
        · simp at hx
          subst hx
          omega
      · have := h2 x hx
        omega
theorem bnd_nmsL : ∀ ps : List Flt, (nmsL ps).length ≤ bndL ps ∧ ∀ x ∈ nmsL ps, x.length ≤ bndL ps
  | [] => ⟨by simp [nmsL], fun x hx => by simp [nmsL] at hx⟩
  | p :: r => by
    obtain ⟨h1, h2⟩ := bnd_nms p
    obtain ⟨h3, h4⟩ := bnd_nmsL r
    rw [nmsL, bndL]
    refine ⟨by rw [List.length_append]; omega, fun x hx => ?_⟩
    rw [List.mem_append] at hx
    rcases hx with hx | hx
    · have := h2 x hx; omega
    · have := h4 x hx; omega
end
theorem bndL_le {H : Type} : ∀ (l : List Flt) (ds : List (DataW H)), l.length = ds.length → (∀ (k : Nat) (h : k < l.length) (h2 : k < ds.length), bnd l[k] ≤ Rows.uptoBulk ds[k]) → bndL l ≤ Rows.uptoBulkAll ds
  | [], [], _, _ => by simp [bndL]
  | p :: r, d :: ds, hl, h => by
    have h0 := h 0 (by simp) (by simp)
    have h1 := bndL_le r ds (by simpa using hl) (fun k hk hk2 => h (k + 1) (by simpa using hk) (by simpa using hk2))
    simp only [List.getElem_cons_zero] at h0
    simp only [bndL, Rows.uptoBulkAll]
    omega
  | [], d :: ds, hl, _ => by simp at hl
  | p :: r, [], hl, _ => by simp at hl
section
variable {H : Type} {enc : TypeId × Value → H} {P : Program} {w : World} {base : Nat} {spare : Nat → Bool} {held : Bool}
variable {tF tA tL tVs : TypeId} {f0 f1 f2 f3 f4 a0 a1 a2 a3 : Field}
theorem open_parts {t : TypeId} (ht : P.underlying t = some (.slice tF)) (hc : P.cellsOf tF = 5) {fuel : Nat} {cs : List Value} {x : DataW H × List MemPlace} (h : DataW.trod enc P w base spare held fuel t cs = some x)
    (ih : ∀ m, m < fuel → ∀ cs' x', DataW.trod enc P w base spare held m tF cs' = some x' → ∃ (f : Flt) (a : Option Addr) (c : Nat) (b : Option Addr) (d : Nat), cs' = fltC f a c b d ∧ FltAt w (Old w.heap.size) f a b ∧ bnd f ≤ Rows.uptoBulk x'.1) :
    ∃ (l : List Flt) (a : Option Addr) (cap : Nat), cs = [.slice a l.length cap] ∧ l.length ≤ maxLen ∧
      (0 < l.length → ∃ g o, a = some ⟨g, o, none⟩ ∧ g < w.heap.size ∧ ∀ (k : Nat) (hk : k < l.length), ∃ cs', (∃ (a : Option Addr) (c : Nat) (b : Option Addr) (d : Nat), cs' = fltC l[k] a c b d ∧ FltAt w (Old w.heap.size) l[k] a b) ∧ ∀ i, i < 5 → w.cell? ⟨g, o + k * 5 + i, none⟩ = cs'[i]?) ∧ bndL l ≤ Rows.uptoBulk x.1 := by
  rcases DataW.trod_slice ht h with ⟨rfl, rfl⟩ | ⟨a, len, cap, elems, rest, n, rfl, rfl, rfl, hb, hl, hm, hel, hx, _, _⟩
  · exact ⟨[], none, 0, rfl, Nat.zero_le _, fun h => by simp at h, by simp [bndL]⟩
  · have each : ∀ i, i < len → ∃ v : Flt, ∃ cs', w.cells? base (a.add (i * 5)) 5 = some cs' ∧ (∃ (a : Option Addr) (c : Nat) (b : Option Addr) (d : Nat), cs' = fltC v a c b d ∧ FltAt w (Old w.heap.size) v a b) ∧ ∀ y, elems[i]? = some y → bnd v ≤ Rows.uptoBulk y.1 := by
      intro i hi
      have h1 := hx i hi
      rw [hc, List.getElem?_eq_getElem (by omega)] at h1
      obtain ⟨cs', h2, h3⟩ := Option.bind_eq_some_iff.1 h1
      obtain ⟨f, a', c', b', d', e1, e2, e3⟩ := ih n (by omega) cs' _ h3
      exact ⟨f, cs', h2, ⟨a', c', b', d', e1, e2⟩, fun y hy => by rw [List.getElem?_eq_getElem (by omega)] at hy; cases hy; exact e3⟩
    obtain ⟨V, hV⟩ := choose_lt each
    refine ⟨(List.range len).map V, some a, cap, by simp, by simp; omega, fun hp => ?_, ?_⟩
    · simp only [List.length_map, List.length_range] at hp
      have hs : a.spot = none ∧ a.block < w.heap.size := by
        obtain ⟨cs', h2, h3⟩ := hV 0 hp
        obtain ⟨_, hl2, hc2⟩ := World.cells?_some h2
        have h4 := hc2 0 (by omega)
        rw [List.getElem?_eq_getElem (by omega)] at h4
        simp only [Nat.zero_mul, Addr.add] at h4
        simp only [if_true] at h4
        exact ⟨World.cell?_spot h4, World.block_lt_of_cell? w a h4⟩
      obtain ⟨g, o, s⟩ := a
      obtain ⟨hs1, hs2⟩ := hs
      simp only at hs1
      subst hs1
      refine ⟨g, o, rfl, hs2, fun k hk => ?_⟩
      simp only [List.length_map, List.length_range] at hk
      obtain ⟨cs', h2, h3, _⟩ := hV k hk
      refine ⟨cs', by simpa using h3, fun i hi => ?_⟩
      have h4 := (World.cells?_some h2).2.2 i hi
      rw [add_plain, add_plain] at h4
      exact h4
    · show bndL ((List.range len).map V) ≤ Rows.uptoBulk (.slice (elems.map (·.1)) (rest.map (·.1)))
      have := bndL_le ((List.range len).map V) (elems.map (·.1)) (by simp [hel]) (fun k hk hk2 => by
        simp only [List.length_map, List.length_range] at hk
        obtain ⟨cs', h2, h3, h4⟩ := hV k hk
        simpa using h4 elems[k] (List.getElem?_eq_getElem (by omega)))
      simp only [Rows.uptoBulk]
      omega
theorem open_bulk_cells (T : Types P tF tA tL tVs f0 f1 f2 f3 f4 a0 a1 a2 a3) : ∀ (fuel : Nat) (cs : List Value) (x : DataW H × List MemPlace), DataW.trod enc P w base spare held fuel tF cs = some x →
    ∃ (f : Flt) (a : Option Addr) (c : Nat) (b : Option Addr) (d : Nat), cs = fltC f a c b d ∧ FltAt w (Old w.heap.size) f a b ∧ bnd f ≤ Rows.uptoBulk x.1 := by
  intro fuel
  induction fuel using Nat.strongRecOn with
  | _ fuel ih =>
    intro cs x h
    obtain ⟨xs, n, rfl, hxe, hl, hlen, hf⟩ := DataW.trod_struct T.filter h
    obtain ⟨o0, k0⟩ := hone_of T.fone 0 f0 rfl
    obtain ⟨o1, k1⟩ := hone_of T.fone 1 f1 rfl
    obtain ⟨o2, k2⟩ := hone_of T.fone 2 f2 rfl
    obtain ⟨o3, k3⟩ := hone_of T.fone 3 f3 rfl
    obtain ⟨o4, k4⟩ := hone_of T.fone 4 f4 rfl
    obtain ⟨c0, c1, c2, c3, c4, rfl⟩ := list5 (hl.trans T.fcells)
    have g := fun i (f : Field) (hi : #[f0, f1, f2, f3, f4][i]? = some f) => hf i f hi
    have g0 := g 0 f0 rfl
    have g1 := g 1 f1 rfl
    have g2 := g 2 f2 rfl
    have g3 := g 3 f3 rfl
    have g4 := g 4 f4 rfl
    have hxl : xs.length = 5 := hlen
    rw [List.getElem?_eq_getElem (by omega)] at g0 g1 g2 g3 g4
    rw [T.t3] at g3
    rw [T.t4] at g4
    obtain ⟨n0, e0, _, z0⟩ := DataW.trod_int T.u0 g0
    obtain ⟨s1, e1, hx1, z1⟩ := DataW.trod_string T.u1 g1
    obtain ⟨s2, e2, _, z2⟩ := DataW.trod_string T.u2 g2
    obtain ⟨vs, a, c, e3, hvs⟩ := open_atts T g3
    obtain ⟨ps, b, d, e4, hpl, hps, hbd⟩ := open_parts (tF := tF) T.parts T.fcells g4 (fun m hm cs' x' h' => ih m (by omega) cs' x' h')
    simp [o0, k0] at e0
    simp [o1, k1] at e1
    simp [o2, k2] at e2
    rw [← T.t3] at e3
    rw [← T.t4] at e4
    simp [o3, k3] at e3
    simp [o4, k4] at e4
    subst e0 e1 e2 e3 e4
    obtain ⟨y0, y1, y2, y3, y4, rfl⟩ : ∃ y0 y1 y2 y3 y4, xs = [y0, y1, y2, y3, y4] := by
      match xs, hxl with
      | [y0, y1, y2, y3, y4], _ => exact ⟨y0, y1, y2, y3, y4, rfl⟩
    have w1 : y1.1 = .lit (.string s1.data.toList) := congrArg Prod.fst hx1
    have w4 : bndL ps ≤ Rows.uptoBulk y4.1 := hbd
    refine ⟨.mk n0 s1.data.toList s2.data.toList vs ps, a, c, b, d, ?_, FltAt.mk' ⟨by rw [Flt.name, size_list]; exact z1, by rw [Flt.op, size_list]; exact z2, (bounds_i64 z0).1, (bounds_i64 z0).2, hpl⟩ hvs (PartsAt.mk' fun k hk => ?_), ?_⟩
    · simp only [fltC, Flt.kind, Flt.name, Flt.op, Flt.vals, Flt.parts, bs_list]
    · obtain ⟨g, o, e, hg, hq⟩ := hps (Nat.lt_of_le_of_lt (Nat.zero_le _) hk)
      obtain ⟨cs', ⟨a', c', b', d', rfl, h6⟩, h7⟩ := hq k hk
      refine ⟨g, o, a', c', b', d', e, hg, ?_, h6⟩
      rw [Nat.zero_add]
      show Five w g (o + k * 5) ps[k] a' c' b' d'
      exact ⟨by have q := h7 0 (by omega); revert q; simp [fltC], by have q := h7 1 (by omega); revert q; simp [fltC], by have q := h7 2 (by omega); revert q; simp [fltC], by have q := h7 3 (by omega); revert q; simp [fltC], by have q := h7 4 (by omega); revert q; simp [fltC]⟩
    · rw [hxe]
      show bnd (.mk n0 s1.data.toList s2.data.toList vs ps) ≤ Rows.uptoBulk (.agg ([y0, y1, y2, y3, y4].map (·.1)))
      simp only [List.map_cons, List.map_nil, Rows.uptoBulk, Rows.uptoBulkAll, w1, bnd]
      omega
/-- An argument that is a filter. -/
theorem open_bulk (T : Types P tF tA tL tVs f0 f1 f2 f3 f4 a0 a1 a2 a3) {r : Reach} {b0 : Nat} {v : Value} {dd : DataW H} {p : List MemPlace} (hv : Value.okWide P w r b0 tF v) (h : DataW.Trod enc P w base spare held tF v dd p) :
    ∃ (f : Flt) (a : Option Addr) (c : Nat) (b : Option Addr) (d : Nat), v = .agg #[.int .i64 f.kind, bs f.name, bs f.op, .slice a f.vals.length c, .slice b f.parts.length d] ∧ FltAt w (Old w.heap.size) f a b ∧ bnd f ≤ Rows.uptoBulk dd := by
  obtain ⟨cs, rfl, hsz⟩ := okWide_struct T.filter hv
  obtain ⟨fuel, hf⟩ := h
  obtain ⟨f, a, c, b, d, e, h1⟩ := open_bulk_cells T fuel _ _ hf
  refine ⟨f, a, c, b, d, ?_, h1⟩
  have e2 : cs.toList = fltC f a c b d := by simpa [Value.cells] using e
  have e3 : cs = (fltC f a c b d).toArray := by rw [← e2]
  rw [e3]
  rfl
end
end Go.Proofs.YtmfkpoojfpepaaaGreatDoor.Ck
namespace Go.Proofs.YtmfkpoojfpepaaaGreatDoor.checkTells
open Go.ChangeShapes Go.WideShapes Go.ChangeAt Go.RowKit Go.Joins
open Go.ChangeMaps (open_string shut_string)
set_option linter.unusedVariables false

theorem own : ownKnob Tryz.prog.godebug = none := by kernel_rfl
theorem laidOut : laidOutB Tryz.prog = true := by kernel_rfl
theorem gSynType : (Tryz.prog.globals[0]?).map (·.type) = some 34 := by kernel_rfl
theorem gRngType : (Tryz.prog.globals[1]?).map (·.type) = some 34 := by kernel_rfl
theorem cellsE : Tryz.prog.cellsOf 132 = 1 := by kernel_rfl
theorem cellsS : Tryz.prog.cellsOf 9 = 1 := by kernel_rfl
theorem star : "*" ++ "errors.errorString" = "*errors.errorString" := by decide
theorem rowE (u : TypeId) (h : Tryz.prog.typeName? 3 u = some "*errors.errorString") : u = 130 :=
  typeName_ptr_named (nm := "errors.errorString") (by rw [star]; kernel_rfl) (by kernel_rfl) (by decide) u (by rw [star]; exact h)
/-- What the row's list gives the walk: strconv's two errors. -/
theorem laidE_of {W : World} (h : laidMetH Tryz.prog Rows.checkTellsUptoRow.laid W) : Tk.LaidE W := by
  rw [MakeChecks.laidMetH_plain _ _ _ (by kernel_rfl)] at h
  have h3 := h.tail.tail.tail
  obtain ⟨a1, s1, hv1, -, -, -⟩ := laid_sentinel h3 Tk.gRng gRngType Tryz.underlying34 rowE Tryz.underlying130 Tryz.underlying132 rfl rfl Tryz.underlying9 cellsE cellsS
  obtain ⟨a0, s0, hv0, -, -, -⟩ := laid_sentinel h3.tail Tk.gSyn gSynType Tryz.underlying34 rowE Tryz.underlying130 Tryz.underlying132 rfl rfl Tryz.underlying9 cellsE cellsS
  exact ⟨_, _, _, _, hv0, hv1⟩
/-- The heap that the program's own start-up leaves meets the condition. -/
theorem door_met (os : Os) (args : Array Value) : laidMetH Tryz.prog Rows.checkTellsUptoRow.laid ((World.doorLaid Tryz.prog 62 os).forCall (fun _ _ => 0) ⟨#[], args, []⟩).memory :=
  laidMetH_of_parts3 (fuel := 8) (laidMet_of_run' 8 (by kernel_rfl) (by kernel_rfl)) (by kernel_rfl) (by kernel_rfl)

theorem reads (os : Os) {H : Type} (enc : TypeId × Value → H) : ∃ places, DataW.whole enc Tryz.prog ((World.doorLaid Tryz.prog 62 os).forCall (fun _ _ => 0) ⟨#[], #[.slice none 0 0, .slice none 0 0, .agg #[.int .i64 0, .string ⟨#[]⟩, .string ⟨#[]⟩, .slice none 0 0, .slice none 0 0]], []⟩).memory Tryz.f3.params.toList Rows.checkTellsSpec.vars false #[.slice none 0 0, .slice none 0 0, .agg #[.int .i64 0, .string ⟨#[]⟩, .string ⟨#[]⟩, .slice none 0 0, .slice none 0 0]].toList 8 =
    some ([.nil, .nil, .agg [.lit (.int .i64 0), .lit (.string []), .lit (.string []), .nil, .nil]], [], places) :=
  ⟨[], by kernel_rfl⟩
set_option maxRecDepth 100000 in
theorem lifted (os : Os) (started : os.Started) (H : Type) (enc : TypeId × Value → H) (F : Stop.Interp) :
    ReturnsInHanded {} Tryz.checked os 3 .any ((Rows.OpenSpec.upto Rows.checkTellsSpec).preRow enc Tryz.prog Tryz.f3 Rows.checkTellsUptoRow.domain false Rows.checkTellsUptoRow.laid) (((Rows.OpenSpec.upto Rows.checkTellsSpec).at F).post enc Tryz.prog Tryz.f3 false true false false) := by
  obtain ⟨places, hx⟩ := reads os enc
  refine returnsInHanded_of_row (C := Tryz.checked) (s := Rows.OpenSpec.upto Rows.checkTellsSpec) own started (by kernel_rfl) Tryz.func3
    (witness_row_atRef (enc := enc) (C := Tryz.checked) false (World.doorLaid Tryz.prog 62 os) #[.slice none 0 0, .slice none 0 0, .agg #[.int .i64 0, .string ⟨#[]⟩, .string ⟨#[]⟩, .slice none 0 0, .slice none 0 0]] rfl (by kernel_rfl) (by kernel_rfl) (by kernel_rfl)
      (OpenSpec.preRow_of_cond 8 hx (by kernel_rfl) (fun k hk => by cases hk; kernel_rfl) (by kernel_rfl) (door_met os _))) ?_
  intro W base args ds gs before hval0 hW _ hcond _ hL _ _
  have hval : ∀ (j : Nat) t v, Tryz.f3.params[j]? = some t → args[j]? = some v → Value.okWide Tryz.prog W .any base t v := hval0
  have hW' := hW
  obtain ⟨p, q, hA0, hV, rfl, hfz, hnd⟩ := hW
  have hA : DataW.TrodAll enc Tryz.prog W 0 (fun _ => true) true Tryz.f3.params.toList args.toList ds p := hA0
  rw [Tryz.params3] at hA hval
  obtain ⟨v0, vs0, d0, ds0, p0, q0, hargs, rfl, rfl, h0, r0⟩ := trodAll_cons hA
  obtain ⟨v1, vs1, d1, ds1, p1, q1, rfl, rfl, rfl, h1, r1⟩ := trodAll_cons r0
  obtain ⟨v2, vs2, d2, ds2, p2, q2, rfl, rfl, rfl, h2, r2⟩ := trodAll_cons r1
  obtain ⟨rfl, rfl, rfl⟩ := trodAll_nil r2
  obtain rfl : args = #[v0, v1, v2] := by cases args; simp_all
  obtain ⟨rfl, rfl⟩ := trodVars_none hV
  have hbk : Rows.uptoBulk d2 ≤ 1048576 := by
    have h : Rows.uptoBulkAll ([d0, d1, d2] ++ []) ≤ 1048576 := of_decide_eq_true (hcond _ rfl)
    simp only [List.append_nil, Rows.uptoBulkAll] at h
    omega
  have k0 := h0
  have lt0 : ∀ x ∈ p0, x.block < W.heap.size := by obtain ⟨m, hm⟩ := k0; exact DataW.trod_lt m _ _ _ hm
  obtain ⟨f0, a0, c0, rfl, hf0⟩ := Ck.open_nmsV Tryz.underlying22 Tryz.underlying9 (by kernel_rfl) (hval 0 22 v0 rfl rfl) h0
  have k1 := h1
  have lt1 : ∀ x ∈ p1, x.block < W.heap.size := by obtain ⟨m, hm⟩ := k1; exact DataW.trod_lt m _ _ _ hm
  obtain ⟨f1, a1, c1, rfl, hf1⟩ := Ck.open_blsV Tryz.underlying23 Tryz.underlying4 (by kernel_rfl) (hval 1 23 v1 rfl rfl) h1
  have k2 := h2
  have lt2 : ∀ x ∈ p2, x.block < W.heap.size := by obtain ⟨m, hm⟩ := k2; exact DataW.trod_lt m _ _ _ hm
  obtain ⟨f2, a2, c2, b2, e2, rfl, hf2, hbd⟩ := Ck.open_bulk (tF := 27) (tA := 46) (tL := 25) (tVs := 24) ⟨Tryz.underlying27, by kernel_rfl, by kernel_rfl, Tryz.underlying3, Tryz.underlying9, Tryz.underlying9, rfl, rfl, Tryz.underlying24, Tryz.underlying25, Tryz.underlying46, by kernel_rfl, by kernel_rfl, Tryz.underlying9, Tryz.underlying4, Tryz.underlying2, Tryz.underlying9⟩ (hval 2 27 v2 rfl rfl) h2
  clear hA0 hval0
  refine (Ck.tells_walk f0 a0 c0 f1 a1 c1 f2 a2 c2 b2 e2 W (laidE_of hL) hf0 hf1 hf2 (by have := (Ck.bnd_nms f2).1; omega) (fun x hx => by have := (Ck.bnd_nms f2).2 x hx; omega)).mono fun e W' ⟨he, bel⟩ => ?_
  subst he
  exact ⟨_, rfl, _, _, _, [], _, [], hW', trodAll_mk1 (shut_bool Tryz.underlying4 _), (trodAll_cons_mk (Below.trod laidOut (by kernel_rfl) (of_decide_eq_true (by kernel_rfl)) k0 bel lt0) (trodAll_cons_mk (Below.trod laidOut (by kernel_rfl) (of_decide_eq_true (by kernel_rfl)) k1 bel lt1) (trodAll_cons_mk (Below.trod laidOut (by kernel_rfl) (of_decide_eq_true (by kernel_rfl)) k2 bel lt2) trodAll_mk0))), rfl, bel.frame _, fun h => by cases h⟩

theorem said : Rows.CheckTellsUptoSaid :=
  OpenClaim.holds_of_cond 3 Tryz.f3 rfl rfl rfl rfl rfl rfl rfl ⟨rfl, rfl, rfl, rfl, rfl⟩ rfl rfl rfl rfl rfl (by kernel_rfl) Tryz.func3 (by kernel_rfl)
    (of_decide_eq_true (by kernel_rfl)) (by unfold Func.isWrapper; first | (rw [if_pos (by decide +kernel)]; kernel_rfl) | (rw [if_neg (by decide +kernel)]; exact ⟨rfl, rfl⟩))
    (fun os started H enc _ F => by rw [OpenClaim.pre_eq_preRow]; exact lifted os started H enc F)

/-- No parameter wants a stand-in: what the card asks. -/
theorem plain (f : FuncId) (fn : Func) (hf : Tryz.pinned.checked.prog.funcNamed "plover/ploverlaw08.CheckTells" = some f) (hfn : Tryz.pinned.checked.prog.funcs[f]? = some fn) :
    true = Tryz.pinned.checked.prog.looks [] ∧ ∀ (j : Nat) t, fn.params[j]? = some t → Tryz.pinned.checked.prog.wantsStandIn t = false := by
  obtain rfl : f = 3 := Option.some.inj ((show Tryz.prog.funcNamed "plover/ploverlaw08.CheckTells" = some 3 by kernel_rfl).symm.trans hf) |>.symm
  obtain rfl : fn = Tryz.f3 := (Option.some.inj (Tryz.func3.symm.trans hfn)).symm
  refine ⟨by kernel_rfl, fun j t ht => ?_⟩
  rw [Tryz.params3] at ht
  have hm := Array.mem_of_getElem? ht
  simp at hm
  rcases hm with rfl | rfl | rfl
  · exact (show Tryz.prog.wantsStandIn 22 = false by kernel_rfl)
  · exact (show Tryz.prog.wantsStandIn 23 = false by kernel_rfl)
  · exact (show Tryz.prog.wantsStandIn 27 = false by kernel_rfl)
theorem proved : Rows.CheckTellsUptoCardSaid :=
  Claim7.holds_tied_plain_at .later [] _ _ _ _ said (fun _ h => by cases h) (by kernel_rfl) (fun _ h => by cases h) checkTellsUpto_row_tie rfl ⟨rfl, rfl⟩ (by kernel_rfl) rfl plain (by kernel_rfl)
#print axioms proved
end Go.Proofs.YtmfkpoojfpepaaaGreatDoor.checkTells
