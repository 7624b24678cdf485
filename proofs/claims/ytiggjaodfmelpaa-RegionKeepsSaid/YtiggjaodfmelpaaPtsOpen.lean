/-
  An argument that is a slice of points, opened: its value, the points that it holds, and where they lie. No program here.
-/
import Derived.Test.YtiggjaodfmelpaaPts
import Derived.Deep.SlicePairs
import Derived.WideShapes
import Derived.ChangeArms
namespace Go.Proofs.Ytiggjaodfmelpaa.Pts
open Go.RowKit Go.ChangeShapes Go.WideShapes Go.Deep

theorem open_pts {H : Type} {enc : TypeId × Value → H} {P : Program} {W : World} {base b0 : Nat} {spare : Nat → Bool} {held : Bool} {r : Reach} {t e i : TypeId} {f0 f1 : Field} {v : Value} {d : DataW H} {p : List MemPlace}
    (ht : P.underlying t = some (.slice e)) (he : P.underlying e = some (.struct #[f0, f1])) (ce : P.cellsOf e = 2) (o0 : f0.offset = 0) (o1 : f1.offset = 1) (c0 : P.cellsOf f0.type = 1) (c1 : P.cellsOf f1.type = 1)
    (t0 : f0.type = i) (t1 : f1.type = i) (hi : P.underlying i = some (.int .i64)) (hv : Value.okWide P W r b0 t v) (h : DataW.Trod enc P W base spare held t v d p) :
    ∃ (A : Option Addr) (l : List (Int × Int)) (c : Nat), v = .slice A l.length c ∧ l.length ≤ maxLen ∧ PtsAt W W.heap.size A l := by
  obtain ⟨a, n, c, rfl⟩ := okWide_slice ht hv
  obtain ⟨fuel, hf⟩ := h
  rcases open_slice_pairs ht he ce o0 o1 c0 c1 hf with ⟨h0, _⟩ | ⟨ad, len, cap, m, k, V0, V1, D0, D1, P0, P1, h0, _, hl, hm, hmm, _, hc⟩
  · simp [Value.cells] at h0
    obtain ⟨rfl, rfl, rfl⟩ := h0
    exact ⟨none, [], 0, rfl, Nat.zero_le _, fun h => absurd rfl h⟩
  · simp [Value.cells] at h0
    obtain ⟨rfl, rfl, rfl⟩ := h0
    have hnm : n ≤ m := by rw [hmm]; split <;> omega
    have each : ∀ j, j < n → ∃ q : Int × Int, W.cell? (ad.add (j * 2)) = some (.int .i64 q.1) ∧ W.cell? (ad.add (j * 2 + 1)) = some (.int .i64 q.2) := by
      intro j hj
      obtain ⟨g0, g1, u0, u1⟩ := hc j (by omega)
      rw [t0] at u0
      rw [t1] at u1
      obtain ⟨x, e0, _, _⟩ := DataW.trod_int hi u0
      obtain ⟨y, e1, _, _⟩ := DataW.trod_int hi u1
      simp at e0 e1
      exact ⟨(x, y), by rw [g0, e0], by rw [g1, e1]⟩
    obtain ⟨q, hq⟩ := choose_lt each
    refine ⟨some ad, (List.range n).map q, c, by simp, by simp; omega, fun hne => ?_⟩
    have hn : 0 < n := by
      rcases Nat.eq_zero_or_pos n with h | h
      · subst h; exact absurd rfl hne
      · exact h
    have hs : ad.spot = none := World.cell?_spot (by simpa [Addr.add] using (hq 0 hn).1)
    obtain ⟨b, off, s⟩ := ad
    simp at hs
    subst hs
    refine ⟨b, off, rfl, World.block_lt_of_cell? W ⟨b, off, none⟩ (by simpa [Addr.add] using (hq 0 hn).1), fun j hj => ?_⟩
    have hj' : j < n := by simpa using hj
    have := hq j hj'
    rw [add_plain, add_plain] at this
    simpa [Nat.add_assoc] using this
end Go.Proofs.Ytiggjaodfmelpaa.Pts
