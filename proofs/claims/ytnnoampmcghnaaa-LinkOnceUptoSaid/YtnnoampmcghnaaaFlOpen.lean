/-
  An argument that is a filter, opened: the tree that it is, to any depth. No function of the program here.
-/
import Derived.Test.YtnnoampmcghnaaaFlMem
import Derived.Deep.Slices
import Derived.Lib.SmallJoins
import Derived.OpenShut
import Derived.WideShapes
import Derived.ChangeArms
namespace Go.Proofs.Ytnnoampmcghnaaa.Fl
open Go.RowKit Go.ChangeShapes Go.WideShapes Go.Deep Go.Joins
set_option linter.unusedVariables false
set_option linter.unusedSectionVars false

theorem bs_list (s : ByteArray) : bs s.data.toList = .string s := by
  obtain ⟨d⟩ := s
  simp [bs]
instance : Inhabited Att := ⟨⟨[], false, 0, []⟩⟩
instance : Inhabited Flt := ⟨.mk 0 [] [] [] []⟩
section
variable {H : Type} {enc : TypeId × Value → H} {P : Program} {w : World} {base : Nat} {spare : Nat → Bool} {held : Bool}
/-- What the program's types are. -/
structure Types (P : Program) (tF tA tL tVs : TypeId) (f0 f1 f2 f3 f4 a0 a1 a2 a3 : Field) : Prop where
  filter : P.underlying tF = some (.struct #[f0, f1, f2, f3, f4])
  fcells : P.cellsOf tF = 5
  fone : oneCellFields P #[f0, f1, f2, f3, f4] = true
  u0 : P.underlying f0.type = some (.int .i64)
  u1 : P.underlying f1.type = some .string
  u2 : P.underlying f2.type = some .string
  t3 : f3.type = tVs
  t4 : f4.type = tL
  vals : P.underlying tVs = some (.slice tA)
  parts : P.underlying tL = some (.slice tF)
  attr : P.underlying tA = some (.struct #[a0, a1, a2, a3])
  acells : P.cellsOf tA = 4
  aone : oneCellFields P #[a0, a1, a2, a3] = true
  w0 : P.underlying a0.type = some .string
  w1 : P.underlying a1.type = some .bool
  w2 : P.underlying a2.type = some (.int .i64)
  w3 : P.underlying a3.type = some .string
variable {tF tA tL tVs : TypeId} {f0 f1 f2 f3 f4 a0 a1 a2 a3 : Field}
theorem list4 {cs : List Value} (h : cs.length = 4) : ∃ a b c d, cs = [a, b, c, d] := by
  match cs, h with
  | [a, b, c, d], _ => exact ⟨a, b, c, d, rfl⟩
theorem list5 {cs : List Value} (h : cs.length = 5) : ∃ a b c d e, cs = [a, b, c, d, e] := by
  match cs, h with
  | [a, b, c, d, e], _ => exact ⟨a, b, c, d, e, rfl⟩
theorem size_list (s : ByteArray) : s.data.toList.length = s.size := Array.length_toList
theorem open_att (T : Types P tF tA tL tVs f0 f1 f2 f3 f4 a0 a1 a2 a3) {fuel : Nat} {cs : List Value} {x : DataW H × List MemPlace} (h : DataW.trod enc P w base spare held fuel tA cs = some x) : ∃ v : Att, cs = attC v ∧ attOk v := by
  obtain ⟨y0, y1, y2, y3, n, _, hl, h0, h1, h2, h3⟩ := trod_struct4 T.attr h
  obtain ⟨o0, k0⟩ := hone_of T.aone 0 a0 rfl
  obtain ⟨o1, k1⟩ := hone_of T.aone 1 a1 rfl
  obtain ⟨o2, k2⟩ := hone_of T.aone 2 a2 rfl
  obtain ⟨o3, k3⟩ := hone_of T.aone 3 a3 rfl
  obtain ⟨c0, c1, c2, c3, rfl⟩ := list4 (hl.trans T.acells)
  obtain ⟨s0, e0, _, z0⟩ := DataW.trod_string T.w0 h0
  obtain ⟨b1, e1, _⟩ := DataW.trod_bool T.w1 h1
  obtain ⟨n2, e2, _, z2⟩ := DataW.trod_int T.w2 h2
  obtain ⟨s3, e3, _, z3⟩ := DataW.trod_string T.w3 h3
  simp [o0, k0] at e0
  simp [o1, k1] at e1
  simp [o2, k2] at e2
  simp [o3, k3] at e3
  subst e0 e1 e2 e3
  refine ⟨⟨s0.data.toList, b1, n2, s3.data.toList⟩, ?_, by rw [size_list]; exact z0, by rw [size_list]; exact z3, bounds_i64 z2⟩
  simp only [attC, bs_list]
theorem open_elems {t e : TypeId} {c : Nat} {α : Type} [Inhabited α] {Q : Nat → α → List Value → Prop} (ht : P.underlying t = some (.slice e)) (hc : P.cellsOf e = c) {fuel : Nat} {cs : List Value} {x : DataW H × List MemPlace} (h : DataW.trod enc P w base spare held fuel t cs = some x)
    (hQ : ∀ m, m < fuel → ∀ i cs' x', DataW.trod enc P w base spare held m e cs' = some x' → ∃ v, Q i v cs') (h0 : 0 < c) (hQl : ∀ i v cs', Q i v cs' → cs'.length = c) :
    ∃ (l : List α) (a : Option Addr) (cap : Nat), cs = [.slice a l.length cap] ∧ l.length ≤ maxLen ∧ (0 < l.length → ∃ g o, a = some ⟨g, o, none⟩ ∧ g < w.heap.size ∧ ∀ (k : Nat) (hk : k < l.length), ∃ cs', Q k l[k] cs' ∧ ∀ i, i < c → w.cell? ⟨g, o + k * c + i, none⟩ = cs'[i]?) := by
  rcases DataW.trod_slice ht h with ⟨rfl, _⟩ | ⟨a, len, cap, elems, rest, n, rfl, rfl, _, hb, hl, hm, hel, hx, _, _⟩
  · exact ⟨[], none, 0, rfl, Nat.zero_le _, fun h => by simp at h⟩
  · have each : ∀ i, i < len → ∃ v : α, ∃ cs', w.cells? base (a.add (i * c)) c = some cs' ∧ Q i v cs' := by
      intro i hi
      have h1 := hx i hi
      rw [hc, List.getElem?_eq_getElem (by omega)] at h1
      obtain ⟨cs', h2, h3⟩ := Option.bind_eq_some_iff.1 h1
      obtain ⟨v, hv⟩ := hQ n (by omega) i cs' _ h3
      exact ⟨v, cs', h2, hv⟩
    obtain ⟨V, hV⟩ := choose_lt each
    refine ⟨(List.range len).map V, some a, cap, by simp, by simp; omega, fun hp => ?_⟩
    simp only [List.length_map, List.length_range] at hp
    have hs : a.spot = none ∧ a.block < w.heap.size := by
      obtain ⟨cs', h2, h3⟩ := hV 0 hp
      obtain ⟨_, hl2, hc2⟩ := World.cells?_some h2
      have h4 := hc2 0 (by omega)
      rw [List.getElem?_eq_getElem (by omega)] at h4
      simp only [Nat.zero_mul, Addr.add] at h4
      simp only [if_true] at h4
      exact ⟨World.cell?_spot h4, World.block_lt_of_cell? w a h4⟩
    obtain ⟨g, o, s⟩ := a
    obtain ⟨hs1, hs2⟩ := hs
    simp only at hs1
    subst hs1
    refine ⟨g, o, rfl, hs2, fun k hk => ?_⟩
    simp only [List.length_map, List.length_range] at hk
    obtain ⟨cs', h2, h3⟩ := hV k hk
    refine ⟨cs', by simpa using h3, fun i hi => ?_⟩
    have h4 := (World.cells?_some h2).2.2 i hi
    rw [add_plain, add_plain] at h4
    exact h4
theorem open_atts (T : Types P tF tA tL tVs f0 f1 f2 f3 f4 a0 a1 a2 a3) {fuel : Nat} {cs : List Value} {x : DataW H × List MemPlace} (h : DataW.trod enc P w base spare held fuel tVs cs = some x) :
    ∃ (vs : List Att) (a : Option Addr) (c : Nat), cs = [.slice a vs.length c] ∧ AttsAt w (Old w.heap.size) a vs := by
  obtain ⟨l, a, c, e, hm, hc⟩ := open_elems (α := Att) (Q := fun _ v cs' => cs' = attC v ∧ attOk v) T.vals T.acells h (fun m _ i cs' x' h' => open_att T h') (by omega) (fun i v cs' hq => by rw [hq.1]; rfl)
  refine ⟨l, a, c, e, hm, fun v hv => ?_, fun h0 => ?_⟩
  · obtain ⟨k, hk, rfl⟩ := List.getElem_of_mem hv
    obtain ⟨g, o, _, _, hq⟩ := hc (by omega)
    obtain ⟨cs', ⟨_, h2⟩, _⟩ := hq k hk
    exact h2
  · obtain ⟨g, o, e, hg, hq⟩ := hc h0
    refine ⟨g, o, e, hg, fun k hk => ?_⟩
    obtain ⟨cs', ⟨rfl, h2⟩, h3⟩ := hq k hk
    exact ⟨by simpa [attC] using h3 0 (by omega), by simpa [attC] using h3 1 (by omega), by simpa [attC] using h3 2 (by omega), by simpa [attC] using h3 3 (by omega)⟩
theorem open_flt_cells (T : Types P tF tA tL tVs f0 f1 f2 f3 f4 a0 a1 a2 a3) : ∀ (fuel : Nat) (cs : List Value) (x : DataW H × List MemPlace), DataW.trod enc P w base spare held fuel tF cs = some x →
    ∃ (f : Flt) (a : Option Addr) (c : Nat) (b : Option Addr) (d : Nat), cs = fltC f a c b d ∧ FltAt w (Old w.heap.size) f a b := by
  intro fuel
  induction fuel using Nat.strongRecOn with
  | _ fuel ih =>
    intro cs x h
    obtain ⟨xs, n, rfl, _, hl, hlen, hf⟩ := DataW.trod_struct T.filter h
    obtain ⟨o0, k0⟩ := hone_of T.fone 0 f0 rfl
    obtain ⟨o1, k1⟩ := hone_of T.fone 1 f1 rfl
    obtain ⟨o2, k2⟩ := hone_of T.fone 2 f2 rfl
    obtain ⟨o3, k3⟩ := hone_of T.fone 3 f3 rfl
    obtain ⟨o4, k4⟩ := hone_of T.fone 4 f4 rfl
    obtain ⟨c0, c1, c2, c3, c4, rfl⟩ := list5 (hl.trans T.fcells)
    have g := fun i (f : Field) (hi : #[f0, f1, f2, f3, f4][i]? = some f) => hf i f hi
    have g0 := g 0 f0 rfl
    have g1 := g 1 f1 rfl
    have g2 := g 2 f2 rfl
    have g3 := g 3 f3 rfl
    have g4 := g 4 f4 rfl
    have hxl : xs.length = 5 := hlen
    rw [List.getElem?_eq_getElem (by omega)] at g0 g1 g2 g3 g4
    rw [T.t3] at g3
    rw [T.t4] at g4
    obtain ⟨n0, e0, _, z0⟩ := DataW.trod_int T.u0 g0
    obtain ⟨s1, e1, _, z1⟩ := DataW.trod_string T.u1 g1
    obtain ⟨s2, e2, _, z2⟩ := DataW.trod_string T.u2 g2
    obtain ⟨vs, a, c, e3, hvs⟩ := open_atts T g3
    obtain ⟨ps, b, d, e4, hpl, hps⟩ := open_elems (α := Flt) (Q := fun _ p cs' => ∃ (a : Option Addr) (c : Nat) (b : Option Addr) (d : Nat), cs' = fltC p a c b d ∧ FltAt w (Old w.heap.size) p a b) T.parts T.fcells g4
      (fun m hm i cs' x' h' => ih m (by omega) cs' x' h') (by omega) (fun i v cs' hq => by obtain ⟨_, _, _, _, e, _⟩ := hq; rw [e]; rfl)
    simp [o0, k0] at e0
    simp [o1, k1] at e1
    simp [o2, k2] at e2
    rw [← T.t3] at e3
    rw [← T.t4] at e4
    simp [o3, k3] at e3
    simp [o4, k4] at e4
    subst e0 e1 e2 e3 e4
    refine ⟨.mk n0 s1.data.toList s2.data.toList vs ps, a, c, b, d, ?_, FltAt.mk' ⟨by rw [Flt.name, size_list]; exact z1, by rw [Flt.op, size_list]; exact z2, (bounds_i64 z0).1, (bounds_i64 z0).2, hpl⟩ hvs (PartsAt.mk' fun k hk => ?_)⟩
    · simp only [fltC, Flt.kind, Flt.name, Flt.op, Flt.vals, Flt.parts, bs_list]
    · obtain ⟨g, o, e, hg, hq⟩ := hps (Nat.lt_of_le_of_lt (Nat.zero_le _) hk)
      obtain ⟨cs', ⟨a', c', b', d', rfl, h6⟩, h7⟩ := hq k hk
      refine ⟨g, o, a', c', b', d', e, hg, ?_, h6⟩
      rw [Nat.zero_add]
      show Five w g (o + k * 5) ps[k] a' c' b' d'
      exact ⟨by simpa [fltC] using h7 0 (by omega), by simpa [fltC] using h7 1 (by omega), by simpa [fltC] using h7 2 (by omega), by simpa [fltC] using h7 3 (by omega), by simpa [fltC] using h7 4 (by omega)⟩
/-- An argument that is a filter. -/
theorem open_flt (T : Types P tF tA tL tVs f0 f1 f2 f3 f4 a0 a1 a2 a3) {r : Reach} {b0 : Nat} {v : Value} {d : DataW H} {p : List MemPlace} (hv : Value.okWide P w r b0 tF v) (h : DataW.Trod enc P w base spare held tF v d p) :
    ∃ (f : Flt) (a : Option Addr) (c : Nat) (b : Option Addr) (d : Nat), v = .agg #[.int .i64 f.kind, bs f.name, bs f.op, .slice a f.vals.length c, .slice b f.parts.length d] ∧ FltAt w (Old w.heap.size) f a b := by
  obtain ⟨cs, rfl, hsz⟩ := okWide_struct T.filter hv
  obtain ⟨fuel, hf⟩ := h
  obtain ⟨f, a, c, b, d, e, h1⟩ := open_flt_cells T fuel _ _ hf
  refine ⟨f, a, c, b, d, ?_, h1⟩
  have e2 : cs.toList = fltC f a c b d := by simpa [Value.cells] using e
  have e3 : cs = (fltC f a c b d).toArray := by rw [← e2]
  rw [e3]
  rfl
end
end Go.Proofs.Ytnnoampmcghnaaa.Fl
