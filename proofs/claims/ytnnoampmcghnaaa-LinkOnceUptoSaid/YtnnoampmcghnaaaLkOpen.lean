/-
  Arguments that are deeds, opened. No function of the program here.
-/
import Derived.Test.YtnnoampmcghnaaaLkFl
import Derived.Test.YtnnoampmcghnaaaFrOpen
namespace Go.Proofs.Ytnnoampmcghnaaa.Lk
open Go.RowKit Go.ChangeShapes Go.WideShapes Go.Deep Go.Joins Go.Proofs.Ytnnoampmcghnaaa.Fl Go.Proofs.Ytnnoampmcghnaaa.Wi Go.Proofs.Ytnnoampmcghnaaa.Fr
set_option linter.unusedVariables false
set_option linter.unusedSectionVars false
instance : Inhabited Dd := ⟨⟨0, 0, false, []⟩⟩
/-- What the program's types are. -/
structure DTy (P : Program) (tD tB tU : TypeId) (f0 f1 f2 f3 : Field) : Prop where
  deed : P.underlying tD = some (.struct #[f0, f1, f2, f3])
  cells : P.cellsOf tD = 4
  one : oneCellFields P #[f0, f1, f2, f3] = true
  w0 : P.underlying f0.type = some (.int .i64)
  w1 : P.underlying f1.type = some (.int .i64)
  w2 : P.underlying f2.type = some .bool
  t3 : f3.type = tB
  w3 : P.underlying tB = some (.slice tU)
  w4 : P.underlying tU = some (.int .u8)
  c4 : P.cellsOf tU = 1
section
variable {H : Type} {enc : TypeId × Value → H} {P : Program} {w : World} {base b0 : Nat} {spare : Nat → Bool} {held : Bool} {r : Reach} {v : Value} {d : DataW H} {p : List MemPlace}
variable {tD tB tU : TypeId} {f0 f1 f2 f3 : Field}
theorem open_deed (T : DTy P tD tB tU f0 f1 f2 f3) {fuel : Nat} {cs : List Value} {x : DataW H × List MemPlace} (h : DataW.trod enc P w base spare held fuel tD cs = some x) :
    ∃ (d : Dd) (a : Option Addr) (c : Nat), cs = ddC d a c ∧ ddOk d ∧ d.b.length ≤ c ∧ BytesAt w (Old w.heap.size) a d.b := by
  obtain ⟨y0, y1, y2, y3, n, _, hl, h0, h1, h2, h3⟩ := trod_struct4 T.deed h
  obtain ⟨o0, k0⟩ := hone_of T.one 0 f0 rfl
  obtain ⟨o1, k1⟩ := hone_of T.one 1 f1 rfl
  obtain ⟨o2, k2⟩ := hone_of T.one 2 f2 rfl
  obtain ⟨o3, k3⟩ := hone_of T.one 3 f3 rfl
  obtain ⟨c0, c1, c2, c3, rfl⟩ := list4 (hl.trans T.cells)
  obtain ⟨n0, e0, _, z0⟩ := DataW.trod_int T.w0 h0
  obtain ⟨n1, e1, _, z1⟩ := DataW.trod_int T.w1 h1
  obtain ⟨b2, e2, _⟩ := DataW.trod_bool T.w2 h2
  rw [T.t3] at h3
  obtain ⟨l, a, c, e3, hlc, hby⟩ := open_bytes_cells T.w3 T.w4 T.c4 h3
  simp [o0, k0] at e0
  simp [o1, k1] at e1
  simp [o2, k2] at e2
  rw [← T.t3] at e3
  simp [o3, k3] at e3
  subst e0 e1 e2 e3
  have b1 := bounds_i64 z0
  have b2' := bounds_i64 z1
  exact ⟨⟨n0, n1, b2, l⟩, a, c, rfl, ⟨b1.1, b1.2, b2'.1, b2'.2⟩, hlc, hby⟩
theorem open_deeds {t : TypeId} (ht : P.underlying t = some (.slice tD)) (T : DTy P tD tB tU f0 f1 f2 f3) (hv : Value.okWide P w r b0 t v) (h : DataW.Trod enc P w base spare held t v d p) :
    ∃ (l : List Dd) (a : Option Addr) (c : Nat), v = .slice a l.length c ∧ DsAt w (Old w.heap.size) a l := by
  obtain ⟨x, n, cap, rfl⟩ := okWide_slice ht hv
  obtain ⟨fuel, hf⟩ := h
  obtain ⟨l, a, c, e1, hm, hq⟩ := open_elems (α := Dd) (Q := fun _ d cs' => ∃ a c, cs' = ddC d a c ∧ ddOk d ∧ d.b.length ≤ c ∧ BytesAt w (Old w.heap.size) a d.b) ht T.cells hf (fun m _ i cs' x' h' => open_deed T h') (by omega) (fun i v cs' hq => by obtain ⟨_, _, e, _⟩ := hq; rw [e]; rfl)
  refine ⟨l, a, c, ?_, hm, fun d hd => ?_, fun h0 => ?_⟩
  · simp [Value.cells] at e1
    obtain ⟨rfl, rfl, rfl⟩ := e1
    rfl
  · obtain ⟨k, hk, rfl⟩ := List.getElem_of_mem hd
    obtain ⟨g, o, _, _, hq⟩ := hq (by omega)
    obtain ⟨cs', ⟨_, _, _, h2, _⟩, _⟩ := hq k hk
    exact h2
  · obtain ⟨g, o, e, hg, hq⟩ := hq h0
    refine ⟨g, o, e, hg, fun k hk => ?_⟩
    obtain ⟨cs', ⟨b, c', rfl, h2, h3, h4⟩, h5⟩ := hq k hk
    exact ⟨b, c', h3, h4, by simpa [ddC] using h5 0 (by omega), by simpa [ddC] using h5 1 (by omega), by simpa [ddC] using h5 2 (by omega), by simpa [ddC] using h5 3 (by omega)⟩
end
end Go.Proofs.Ytnnoampmcghnaaa.Lk
