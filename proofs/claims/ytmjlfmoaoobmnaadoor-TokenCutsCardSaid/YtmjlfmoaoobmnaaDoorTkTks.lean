/-
  A slice that holds tokens, to be read. No program here.
-/
import Derived.Test.YtmjlfmoaoobmnaaDoorTkCells
namespace Go.Proofs.YtmjlfmoaoobmnaaDoor.Tk
open Go.RowKit
set_option linter.unusedVariables false

theorem cut_few : ∀ (n a : Nat) (l : List UInt8) (ts : List Tok), l.length ≤ n → cutAt a l = some ts → ts.length ≤ l.length
  | n, a, [], ts, _, h => by
    rw [cutAt_nil] at h
    cases h
    simp
  | 0, a, c :: r, ts, hn, _ => by simp at hn
  | n + 1, a, c :: r, ts, hn, h => by
    simp only [List.length_cons] at hn
    by_cases hc : c.toNat = 32
    · rw [cutAt_space hc] at h
      have := cut_few n (a + 1) r ts (by omega) h
      simp only [List.length_cons]
      omega
    · cases hx : lex (c :: r) with
      | none => rw [cutAt_none hc a r hx] at h; cases h
      | some x =>
        have hz := lex_size hx
        rw [cutAt_some hc a r hx] at h
        obtain ⟨us, hu, rfl⟩ := Option.map_eq_some_iff.1 h
        have hl : ((c :: r).drop x.size).length = (c :: r).length - x.size := by simp
        have := cut_few n (a + x.size) _ us (by rw [hl]; simp only [List.length_cons]; omega) hu
        simp only [List.length_cons] at hl ⊢ this
        omega
/-- v is a slice that holds ts; its block was there below z. -/
def TksAt (W : World) (z : Nat) (a : Option Addr) (ts : List Tok) : Prop :=
  z ≤ W.heap.size ∧ (0 < ts.length → ∃ g, a = some ⟨g, 0, none⟩ ∧ g < z ∧ ∀ (k : Nat) (h : k < ts.length), W.cell? ⟨g, k * 4, none⟩ = some (.int .i64 ts[k].kind) ∧ W.cell? ⟨g, k * 4 + 1, none⟩ = some (.int .i64 (ts[k].pos : Nat)) ∧
    W.cell? ⟨g, k * 4 + 2, none⟩ = some (.int .i64 ts[k].num) ∧ W.cell? ⟨g, k * 4 + 3, none⟩ = some (.string ⟨ts[k].str.toArray⟩))
theorem TksAt.later {W V : World} {z : Nat} {a : Option Addr} {ts : List Tok} (h : TksAt W z a ts) (hB : Below z W V) : TksAt V z a ts := by
  refine ⟨Nat.le_trans h.1 hB.size, fun h0 => ?_⟩
  obtain ⟨g, e, hg, hc⟩ := h.2 h0
  refine ⟨g, e, hg, fun k hk => ?_⟩
  obtain ⟨c0, c1, c2, c3⟩ := hc k hk
  exact ⟨(hB.cell (p := ⟨g, _, none⟩) hg).trans c0, (hB.cell (p := ⟨g, _, none⟩) hg).trans c1, (hB.cell (p := ⟨g, _, none⟩) hg).trans c2, (hB.cell (p := ⟨g, _, none⟩) hg).trans c3⟩
theorem TksAt.wide {W : World} {z z' : Nat} {a : Option Addr} {ts : List Tok} (h : TksAt W z a ts) (h1 : z ≤ z') (h2 : z' ≤ W.heap.size) : TksAt W z' a ts := by
  refine ⟨h2, fun h0 => ?_⟩
  obtain ⟨g, e, hg, hc⟩ := h.2 h0
  exact ⟨g, e, by omega, hc⟩
theorem s_same {p q r t b : Prop} (h : p ∧ q ∧ r ∧ t ∧ b) : b := h.2.2.2.2
theorem own_tks {W : World} {base : Nat} {t : TypeId} {v : Value} {ts : List Tok} (h : W.ownsRow base t 4 v ts.length (cellsT ts)) : ∃ a cap, v = .slice a ts.length cap ∧ TksAt W W.heap.size a ts := by
  have h2 := h
  rcases h.2 with ⟨rfl, e⟩ | ⟨g, cap, cur, rfl, _, hh, _⟩
  · refine ⟨none, 0, by rw [e], Nat.le_refl _, fun h0 => by omega⟩
  · refine ⟨_, cap, rfl, Nat.le_refl _, fun _ => ⟨g, rfl, (Array.getElem?_eq_some_iff.1 hh).1, fun k hk => ?_⟩⟩
    have d := fun (j : Nat) (hj : j < 4) => (h2.cellAt (k * 4 + j) (by omega)).trans (cellsT_get ts k hk j hj)
    exact ⟨by simpa [cellT] using d 0 (by omega), by simpa [cellT] using d 1 (by omega), by simpa [cellT] using d 2 (by omega), by simpa [cellT] using d 3 (by omega)⟩
end Go.Proofs.YtmjlfmoaoobmnaaDoor.Tk
