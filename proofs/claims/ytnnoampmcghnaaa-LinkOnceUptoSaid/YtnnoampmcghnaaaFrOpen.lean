/-
  Arguments that are pieces of bytes, or whole numbers, opened. No function of the program here.
-/
import Derived.Test.YtnnoampmcghnaaaFlOpen
import Derived.Test.YtnnoampmcghnaaaFrMem
namespace Go.Proofs.Ytnnoampmcghnaaa.Fr
open Go.RowKit Go.ChangeShapes Go.WideShapes Go.Deep Go.Joins Go.Proofs.Ytnnoampmcghnaaa.Fl Go.Proofs.Ytnnoampmcghnaaa.Wi
set_option linter.unusedVariables false
set_option linter.unusedSectionVars false
/-- Whole numbers in memory. -/
def IntsAt (W : World) (S : Nat → Prop) (a : Option Addr) (l : List Int) : Prop :=
  l.length ≤ maxLen ∧ (0 < l.length → ∃ g o, a = some ⟨g, o, none⟩ ∧ S g ∧ ∀ (k : Nat) (h : k < l.length), W.cell? ⟨g, o + k, none⟩ = some (.int .i64 l[k]))
section
variable {H : Type} {enc : TypeId × Value → H} {P : Program} {w : World} {base b0 : Nat} {spare : Nat → Bool} {held : Bool} {r : Reach} {v : Value} {d : DataW H} {p : List MemPlace}
theorem open_bytes_cells {t e : TypeId} (ht : P.underlying t = some (.slice e)) (he : P.underlying e = some (.int .u8)) (hc : P.cellsOf e = 1) {fuel : Nat} {cs : List Value} {x : DataW H × List MemPlace} (hf : DataW.trod enc P w base spare held fuel t cs = some x) :
    ∃ (l : List UInt8) (a : Option Addr) (c : Nat), cs = [.slice a l.length c] ∧ l.length ≤ c ∧ BytesAt w (Old w.heap.size) a l := by
  obtain ⟨l, a, c, e1, hm, hq⟩ := open_elems (α := UInt8) (Q := fun _ v cs' => cs' = [.int .u8 (v.toNat : Int)]) ht hc hf (fun m _ i cs' x' h' => by
    obtain ⟨n0, j0, _, z0⟩ := DataW.trod_int he h'
    have hb : 0 ≤ n0 ∧ n0 < 256 := by
      have h1 : IntKind.u8.min = 0 := rfl
      have h2 : IntKind.u8.max = 255 := rfl
      simp only [Lit.wf, Bool.and_eq_true, decide_eq_true_eq] at z0
      omega
    refine ⟨UInt8.ofNat n0.toNat, ?_⟩
    rw [j0]
    have : (UInt8.ofNat n0.toNat).toNat = n0.toNat := by
      rw [UInt8.toNat_ofNat']
      omega
    rw [this, show ((n0.toNat : Nat) : Int) = n0 by omega]) (by omega) (fun i v cs' hq => by rw [hq]; rfl)
  have hle : l.length ≤ c := by
    rcases DataW.trod_slice ht hf with ⟨e2, _⟩ | ⟨a', len', cap', _, _, _, _, e2, _, _, hl, _⟩
    · rw [e1] at e2
      simp only [List.cons.injEq, Value.slice.injEq, and_true] at e2
      omega
    · rw [e1] at e2
      simp only [List.cons.injEq, Value.slice.injEq, and_true] at e2
      omega
  refine ⟨l, a, c, e1, hle, hm, fun h0 => ?_⟩
  obtain ⟨g, o, e, hg, hq⟩ := hq h0
  refine ⟨g, o, e, hg, fun k hk => ?_⟩
  obtain ⟨cs', rfl, h3⟩ := hq k hk
  simpa using h3 0 (by omega)
/-- Pieces of bytes. -/
theorem open_pieces {t e e2 : TypeId} (ht : P.underlying t = some (.slice e)) (he : P.underlying e = some (.slice e2)) (he2 : P.underlying e2 = some (.int .u8)) (hc : P.cellsOf e = 1) (hc2 : P.cellsOf e2 = 1) (hv : Value.okWide P w r b0 t v) (h : DataW.Trod enc P w base spare held t v d p) :
    ∃ (ls : List (List UInt8)) (cs : List Value) (a : Option Addr) (c : Nat), v = .slice a cs.length c ∧ CellsAt w (Old w.heap.size) a cs ∧ FsV w (Old w.heap.size) cs ls := by
  obtain ⟨x, n, cap, rfl⟩ := okWide_slice ht hv
  obtain ⟨fuel, hf⟩ := h
  obtain ⟨l, a, c, e1, hm, hq⟩ := open_elems (α := List UInt8) (Q := fun _ v cs' => ∃ a c, cs' = [.slice a v.length c] ∧ v.length ≤ c ∧ BytesAt w (Old w.heap.size) a v) ht hc hf (fun m _ i cs' x' h' => open_bytes_cells he he2 hc2 h') (by omega) (fun i v cs' hq => by obtain ⟨_, _, e, _⟩ := hq; rw [e]; rfl)
  have e3 : Value.slice x n cap = .slice a l.length c := by
    simp [Value.cells] at e1
    obtain ⟨rfl, rfl, rfl⟩ := e1
    rfl
  rw [e3]
  rcases Nat.eq_zero_or_pos l.length with h0 | h0
  · obtain rfl := List.eq_nil_of_length_eq_zero h0
    exact ⟨[], [], a, c, rfl, ⟨by simp [maxLen], fun h => by simp at h⟩, FsV.nil _ _⟩
  · obtain ⟨g, o, e, hg, hq⟩ := hq h0
    have hcell : ∀ (k : Nat) (hk : k < l.length), ∃ a c, w.cell? ⟨g, o + k, none⟩ = some (.slice a l[k].length c) ∧ l[k].length ≤ c ∧ BytesAt w (Old w.heap.size) a l[k] := fun k hk => by
      obtain ⟨cs', ⟨a', c', rfl, h2, h3⟩, h4⟩ := hq k hk
      exact ⟨a', c', by simpa using h4 0 (by omega), h2, h3⟩
    have hat : ∀ (k : Nat) (hk : k < l.length), ((List.range l.length).map fun k => (w.cell? ⟨g, o + k, none⟩).getD (.bool false))[k]? = w.cell? ⟨g, o + k, none⟩ := fun k hk => by
      obtain ⟨a', c', h1, _, _⟩ := hcell k hk
      rw [List.getElem?_map, List.getElem?_range hk]
      simp [h1]
    refine ⟨l, (List.range l.length).map fun k => (w.cell? ⟨g, o + k, none⟩).getD (.bool false), a, c, by simp, ⟨by simpa using hm, fun _ => ⟨g, o, e, hg, fun k u hu => ?_⟩⟩, by simp, fun k hk => ?_⟩
    · have hk : k < l.length := by
        have := (List.getElem?_eq_some_iff.1 hu).1
        simpa using this
      rw [← hat k hk]
      exact hu
    · obtain ⟨a', c', h1, h2, h3⟩ := hcell k hk
      exact ⟨a', c', (hat k hk).trans h1, h2, h3⟩
/-- Whole numbers. -/
theorem open_ints {t e : TypeId} (ht : P.underlying t = some (.slice e)) (he : P.underlying e = some (.int .i64)) (hc : P.cellsOf e = 1) (hv : Value.okWide P w r b0 t v) (h : DataW.Trod enc P w base spare held t v d p) :
    ∃ (l : List Int) (a : Option Addr) (c : Nat), v = .slice a l.length c ∧ IntsAt w (Old w.heap.size) a l := by
  obtain ⟨x, n, cap, rfl⟩ := okWide_slice ht hv
  obtain ⟨fuel, hf⟩ := h
  obtain ⟨l, a, c, e1, hm, hq⟩ := open_elems (α := Int) (Q := fun _ v cs' => cs' = [.int .i64 v]) ht hc hf (fun m _ i cs' x' h' => by
    obtain ⟨n0, j0, _, z0⟩ := DataW.trod_int he h'
    exact ⟨n0, j0⟩) (by omega) (fun i v cs' hq => by rw [hq]; rfl)
  refine ⟨l, a, c, ?_, hm, fun h0 => ?_⟩
  · simp [Value.cells] at e1
    obtain ⟨rfl, rfl, rfl⟩ := e1
    rfl
  · obtain ⟨g, o, e, hg, hq⟩ := hq h0
    refine ⟨g, o, e, hg, fun k hk => ?_⟩
    obtain ⟨cs', rfl, h3⟩ := hq k hk
    simpa using h3 0 (by omega)
end
end Go.Proofs.Ytnnoampmcghnaaa.Fr
