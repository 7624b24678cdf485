/-
  Arguments that are pieces of bytes, opened: and how long each is at most. No function of the program here.
-/
import Derived.Test.YtnnoampmcghnaaaRows
import Derived.Test.YtnnoampmcghnaaaFrOpen
namespace Go.Proofs.Ytnnoampmcghnaaa.Lk
open Go.RowKit Go.ChangeShapes Go.WideShapes Go.Deep Go.Joins Go.Proofs.Ytnnoampmcghnaaa.Fl Go.Proofs.Ytnnoampmcghnaaa.Wi Go.Proofs.Ytnnoampmcghnaaa.Fr
set_option linter.unusedVariables false
set_option linter.unusedSectionVars false
theorem bulk_pos {H : Type} (d : DataW H) : 1 ≤ Rows.uptoBulk d := by
  cases d with
  | lit l => cases l <;> simp [Rows.uptoBulk]
  | _ => simp [Rows.uptoBulk]
theorem bulk_len {H : Type} : ∀ l : List (DataW H), l.length ≤ Rows.uptoBulkAll l
  | [] => Nat.zero_le _
  | d :: r => by have := bulk_len r; have := bulk_pos d; simp only [List.length_cons, Rows.uptoBulkAll]; omega
theorem bulk_mem {H : Type} : ∀ (l : List (DataW H)) (d : DataW H), d ∈ l → Rows.uptoBulk d ≤ Rows.uptoBulkAll l
  | [], d, h => by simp at h
  | x :: r, d, h => by
    simp only [Rows.uptoBulkAll]
    rcases List.mem_cons.1 h with rfl | h
    · omega
    · have := bulk_mem r d h; omega
section
variable {H : Type} {enc : TypeId × Value → H} {P : Program} {w : World} {base b0 : Nat} {spare : Nat → Bool} {held : Bool} {r : Reach} {v : Value} {d : DataW H} {p : List MemPlace}
theorem bulk_slice {t e : TypeId} (ht : P.underlying t = some (.slice e)) {fuel : Nat} {a : Option Addr} {n c : Nat} {x : DataW H × List MemPlace} (hf : DataW.trod enc P w base spare held fuel t [.slice a n c] = some x) : n ≤ Rows.uptoBulk x.1 := by
  rcases DataW.trod_slice ht hf with ⟨e1, rfl⟩ | ⟨a', len, cap, elems, rest, n', rfl, e1, rfl, hb, hl, hm, hel, hx, _, _⟩
  · simp at e1
    obtain ⟨_, rfl, _⟩ := e1
    exact Nat.zero_le _
  · simp at e1
    obtain ⟨_, rfl, _⟩ := e1
    show n ≤ Rows.uptoBulk (.slice (elems.map (·.1)) (rest.map (·.1)))
    have := bulk_len (elems.map (·.1))
    simp only [List.length_map, Rows.uptoBulk] at this ⊢
    omega
theorem bulk_pieces {t e e2 : TypeId} (ht : P.underlying t = some (.slice e)) (he : P.underlying e = some (.slice e2)) (hc : P.cellsOf e = 1) {a : Option Addr} {c : Nat} {cs : List Value} {ls : List (List UInt8)} (h : DataW.Trod enc P w base spare held t (.slice a cs.length c) d p) (hA : CellsAt w (Old w.heap.size) a cs) (hF : FsV w (Old w.heap.size) cs ls) : ∀ x ∈ ls, x.length ≤ Rows.uptoBulk d := by
  obtain ⟨fuel, hf⟩ := h
  intro x hx
  obtain ⟨k, hk, rfl⟩ := List.getElem_of_mem hx
  rcases DataW.trod_slice ht hf with ⟨e1, e3⟩ | ⟨a', len, cap, elems, rest, n', e0, e1, e3, hb, hl, hm, hel, hx, _, _⟩
  · simp [Value.cells] at e1
    have := hF.1
    have h0 : cs.length = 0 := by rw [e1.2.1]; rfl
    omega
  · simp [Value.cells] at e1
    obtain ⟨ea, en, _⟩ := e1
    have hkl : k < len := by have := hF.1; omega
    have h1 := hx k hkl
    rw [hc, List.getElem?_eq_getElem (by omega)] at h1
    obtain ⟨cs', h2, h3⟩ := Option.bind_eq_some_iff.1 h1
    obtain ⟨g, o, e4, _, hcell⟩ := hA.2 (by omega)
    obtain ⟨b, c', h5, _, _⟩ := hF.2 k hk
    have h6 := hcell k _ h5
    obtain ⟨_, hl2, hc2⟩ := World.cells?_some h2
    have h7 := hc2 0 (by omega)
    rw [ea] at e4
    simp at e4
    subst e4
    rw [Nat.mul_one, Addr.add_lit, Addr.add_lit, Nat.add_zero, h6] at h7
    match cs', hl2, h7 with
    | [y], _, h7 =>
      simp at h7
      subst h7
      have h8 := bulk_slice he h3
      have h9 := bulk_mem (elems.map (·.1)) (elems[k]'(by omega)).1 (List.mem_map_of_mem (List.getElem_mem _))
      injection e3 with e5 e6
      rw [e5]
      simp only [Rows.uptoBulk]
      omega
end
end Go.Proofs.Ytnnoampmcghnaaa.Lk
