/-
  Empty literals of bytes, and of slices of bytes. No function of the program here.
-/
import Derived.Test.YthoajnpdnagdbaaFrLawK
namespace Go.Proofs.Ythoajnpdnagdbaa.Fr
open Go.RowKit Go.Proofs.Ythoajnpdnagdbaa.Fl Go.Proofs.Ythoajnpdnagdbaa.Wi
set_option linter.unusedVariables false
set_option linter.unusedSimpArgs false

theorem run_emptyB (w : World) {i0 : TypeInfo} (hi : Try.prog.info? 5 = some i0) : (Instr.buildSlice 26 0 #[]).run Try.prog w = .ok (.slice (some ⟨w.heap.size, 0, none⟩) 0 0) (w.alloc (.cells #[] 5)) := by
  have hu := Try.underlying26
  simp [Instr.buildSlice, run_underlying hu, sizeOf, typeInfo, hi, newRow, Instr.fill]
  rw [show Array.range 0 = (#[] : Array Nat) by decide]
  simp
theorem wpList_emptyB {w : World} {ops : Array Oper} {rest : List Oper} {o : Oper} {a : Act} {Q : Exit → Act → World → Prop} (hgd : o.guard = none) (ho : o.op = .buildSlice 26 0 #[])
    (h : wpList Try.prog ops Q rest (a.put o.dst (.slice (some ⟨w.heap.size, 0, none⟩) 0 0)) (w.alloc (.cells #[] 5))) : wpList Try.prog ops Q (o :: rest) a w := by
  obtain ⟨i0, hi, -⟩ := info_parts infoB
  refine wpList_plain hgd fun K hK => ?_
  unfold Oper.wp execOp
  simp only [ho, Sem.run_bind, List.map_toArray, List.map_nil, run_emptyB w hi, Result.andThen_ok]
  exact hK _ _ h
theorem run_emptyS (w : World) {i0 : TypeInfo} (hi : Try.prog.info? 26 = some i0) : (Instr.buildSlice 22 0 #[]).run Try.prog w = .ok (.slice (some ⟨w.heap.size, 0, none⟩) 0 0) (w.alloc (.cells #[] 26)) := by
  have hu := Try.underlying22
  simp [Instr.buildSlice, run_underlying hu, sizeOf, typeInfo, hi, newRow, Instr.fill]
  rw [show Array.range 0 = (#[] : Array Nat) by decide]
  simp
theorem wpList_emptyS {w : World} {ops : Array Oper} {rest : List Oper} {o : Oper} {a : Act} {Q : Exit → Act → World → Prop} (hgd : o.guard = none) (ho : o.op = .buildSlice 22 0 #[])
    (h : wpList Try.prog ops Q rest (a.put o.dst (.slice (some ⟨w.heap.size, 0, none⟩) 0 0)) (w.alloc (.cells #[] 26))) : wpList Try.prog ops Q (o :: rest) a w := by
  obtain ⟨i0, hi, -⟩ := info_parts infoS
  refine wpList_plain hgd fun K hK => ?_
  unfold Oper.wp execOp
  simp only [ho, Sem.run_bind, List.map_toArray, List.map_nil, run_emptyS w hi, Result.andThen_ok]
  exact hK _ _ h
theorem OB.fresh (w : World) : OB (w.alloc (.cells #[] 5)) w.heap.size (.slice (some ⟨w.heap.size, 0, none⟩) 0 0) [] := ⟨rfl, Or.inr ⟨w.heap.size, 0, #[], rfl, Nat.le_refl _, heap_alloc_new w _, Nat.le_refl _, Nat.zero_le _, rfl, rfl⟩⟩
theorem OS.fresh (w : World) : OS (w.alloc (.cells #[] 26)) w.heap.size (.slice (some ⟨w.heap.size, 0, none⟩) 0 0) [] := ⟨rfl, Or.inr ⟨w.heap.size, 0, #[], rfl, Nat.le_refl _, heap_alloc_new w _, Nat.le_refl _, Nat.zero_le _, rfl, rfl⟩⟩
theorem OB.src {W : World} {z : Nat} {a : Option Addr} {n c : Nat} {l : List UInt8} (h : OB W z (.slice a n c) l) : n = l.length ∧ l.length ≤ c ∧ BytesAt W (Old W.heap.size) a l := by
  obtain ⟨h1, h2, h3⟩ := h.bytes
  exact ⟨h1, h2, h3.far fun g hg => ⟨hg.2, rfl⟩⟩
theorem OS.src {W : World} {z : Nat} {a : Option Addr} {n c : Nat} {cs : List Value} (h : OS W z (.slice a n c) cs) : n = cs.length ∧ CellsAt W (Old W.heap.size) a cs := by
  obtain ⟨h1, h2⟩ := h.cells
  exact ⟨h1, h2.far fun g hg => ⟨(h.lt hg).2, rfl⟩⟩
/-- Bytes of one's own in their block. -/
theorem OB.row {W : World} {z : Nat} {a : Option Addr} {n c : Nat} {l : List UInt8} (h : OB W z (.slice a n c) l) (h0 : 0 < l.length) : ∃ g cur, a = some ⟨g, 0, none⟩ ∧ z ≤ g ∧ g < W.heap.size ∧ Bq W g 5 cur ∧ ∀ j, j < l.length → ∃ x : Nat, x < 256 ∧ cur[j]? = some (.int .u8 (x : Int)) := by
  rcases h.2 with ⟨_, h2⟩ | ⟨g, cap, cur, e, hb, hh, hn, hm, hcs, htake⟩
  · omega
  · cases e
    refine ⟨g, cur, rfl, hb, (Array.getElem?_eq_some_iff.1 hh).1, hh, fun j hj => ⟨l[j].toNat, l[j].toNat_lt, ?_⟩⟩
    have h3 : (cur.toList.take (l.length * 1))[j]? = (byC l)[j]? := by rw [htake]
    rw [List.getElem?_take_of_lt (by omega)] at h3
    rw [← Array.getElem?_toList, h3]
    simp [byC, hj]
end Go.Proofs.Ythoajnpdnagdbaa.Fr
