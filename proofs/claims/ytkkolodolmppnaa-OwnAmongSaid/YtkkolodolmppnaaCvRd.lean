/-
  Slices of uint64 that are read, and such that a call appends to. No program here.
-/
import Derived.Test.YtkkolodolmppnaaSoKit
import Derived.Maps.AppendAt
import Derived.OwnWalk
namespace Go.Proofs.Ytkkolodolmppnaa.Cv
open Go.RowKit Go.Proofs.Ytkkolodolmppnaa.So
set_option linter.unusedVariables false

def u64s (xs : List Int) : List Value := xs.map (Value.int .u64)
theorem u64s_app (xs : List Int) (x : Int) : u64s (xs ++ [x]) = u64s xs ++ [.int .u64 x] := by simp [u64s]
theorem u64s_append (xs ys : List Int) : u64s (xs ++ ys) = u64s xs ++ u64s ys := by simp [u64s]
/-- v is a slice, not nil, that holds xs; its block was there below z. -/
def Rd (W : World) (z : Nat) (v : Value) (xs : List Int) : Prop :=
  ∃ b o cap : Nat, v = .slice (some ⟨b, o, none⟩) xs.length cap ∧ b < z ∧ z ≤ W.heap.size ∧ xs.length ≤ cap ∧ ∀ t (h : t < xs.length), W.cell? ⟨b, o + t, none⟩ = some (.int .u64 xs[t])
theorem Rd.later {W V : World} {z : Nat} {v : Value} {xs : List Int} (h : Rd W z v xs) (hB : Below z W V) : Rd V z v xs := by
  obtain ⟨b, o, cap, rfl, hb, hz, hc, hx⟩ := h
  exact ⟨b, o, cap, rfl, hb, Nat.le_trans hz hB.size, hc, fun t ht => (World.cell?_of_block (w := W) (a := ⟨b, o + t, none⟩) (hB.block b hb)).trans (hx t ht)⟩
theorem Rd.wide {W : World} {z z' : Nat} {v : Value} {xs : List Int} (h : Rd W z v xs) (h1 : z ≤ z') (h2 : z' ≤ W.heap.size) : Rd W z' v xs := by
  obtain ⟨b, o, cap, rfl, hb, hz, hc, hx⟩ := h
  exact ⟨b, o, cap, rfl, by omega, h2, hc, hx⟩
theorem own_lt {W : World} {base n : Nat} {t : TypeId} {v : Value} {xs : List Value} (h : W.ownsRow base t 1 v n xs) {g : Nat} (hg : v.ownBlock = some g) : base ≤ g ∧ g < W.heap.size := h.lt g hg
theorem own_later {W w1 : World} {base n : Nat} {t : TypeId} {v : Value} {xs : List Value} (h : W.ownsRow base t 1 v n xs) (hb : Below W.heap.size W w1) : w1.ownsRow base t 1 v n xs :=
  h.kept (row := none) ⟨hb.os, hb.tape, hb.output, hb.size, fun k hk _ => hb.block k hk⟩ (by cases v.ownBlock <;> simp)
theorem own_below {W w1 v : World} {n : Nat} {t : TypeId} {u : Value} {xs : List Value} (hB : Below v.heap.size v W) (h : W.ownsRow v.heap.size t 1 u n xs) (hg : W.grownBy w1 u.ownBlock) : Below v.heap.size v w1 :=
  hB.grown hg hB.size fun k hk => (own_lt h hk).1
theorem own_apart {W : World} {base n : Nat} {t : TypeId} {v : Value} {xs : List Value} (h : W.ownsRow base t 1 v n xs) : ∀ k, k < base → some k ≠ v.ownBlock := fun k hk e => by
  have := own_lt h e.symm
  omega
theorem drew_own {W : World} {base n : Nat} {t : TypeId} {v : Value} {xs : List Value} (h : W.ownsRow base t 1 v n xs) (q : Nat) : (W.drewN q).ownsRow base t 1 v n xs := h
theorem bdrew {B : Nat} {a w : World} (h : Below B a w) (n : Nat) : Below B a (w.drewN n) := ⟨h.os, h.tape, h.output, h.size, h.block⟩
/-- A slice of one's own that holds something is read. -/
theorem own_rd {W : World} {base : Nat} {t : TypeId} {v : Value} {xs : List Int} (h : W.ownsRow base t 1 v xs.length (u64s xs)) (h0 : 0 < xs.length) : Rd W W.heap.size v xs := by
  have h2 := h
  rcases h.2 with ⟨rfl, e⟩ | ⟨g, cap, cur, rfl, _, hh, hcap, _⟩
  · omega
  · refine ⟨g, 0, cap, rfl, (Array.getElem?_eq_some_iff.1 hh).1, Nat.le_refl _, by omega, fun k hk => ?_⟩
    have := h2.cellAt k (by omega)
    rw [Nat.zero_add, this]
    simp [u64s, hk]
/-- .. and may be written. -/
theorem own_hu {W : World} {base : Nat} {t : TypeId} {v : Value} {xs : List Int} (h : W.ownsRow base t 1 v xs.length (u64s xs)) (h0 : 0 < xs.length) : ∃ g cap, v = .slice (some ⟨g, 0, none⟩) xs.length cap ∧ base ≤ g ∧ g < W.heap.size ∧ xs.length ≤ cap ∧ HU W g 0 xs.toArray := by
  have h2 := h
  rcases h.2 with ⟨rfl, e⟩ | ⟨g, cap, cur, rfl, hb, hh, hcap, _⟩
  · omega
  · refine ⟨g, cap, rfl, hb, (Array.getElem?_eq_some_iff.1 hh).1, by omega, fun k hk => ?_⟩
    have hk2 : k < xs.length := by simpa using hk
    have := h2.cellAt k (by omega)
    rw [Nat.zero_add]
    refine ⟨?_, h2.frozenAt k⟩
    show W.cell? ⟨g, k, none⟩ = _
    rw [this]
    simp [u64s, hk2]
theorem one_u64 (xs : List Int) : ∀ u ∈ u64s xs, u.oneCell' = true := by
  intro u hu
  obtain ⟨x, _, rfl⟩ := List.mem_map.1 hu
  rfl
theorem rd_news {W : World} {b o : Nat} {xs : List Int} (hx : ∀ t (h : t < xs.length), W.cell? ⟨b, o + t, none⟩ = some (.int .u64 xs[t])) : ∀ j u, (u64s xs)[j]? = some u → W.cell? ((⟨b, o, none⟩ : Addr).add j) = some u := by
  intro j u hj
  have hl : j < xs.length := by
    have := (List.getElem?_eq_some_iff.1 hj).1
    simpa [u64s] using this
  have e : (u64s xs)[j]? = some (.int .u64 xs[j]) := by simp [u64s, hl]
  rw [e] at hj
  rw [← hj]
  by_cases hj0 : j = 0
  · subst hj0; simpa [Addr.add] using hx 0 hl
  · simpa [Addr.add, hj0] using hx j hl
/-- Rising. -/
def Up (xs : List Int) : Prop := xs.Pairwise (· ≤ ·)
theorem perm_up {xs ys : List Int} (h : xs.Perm ys) (h1 : Up xs) (h2 : Up ys) : xs = ys := by
  induction xs generalizing ys with
  | nil => exact (List.nil_perm.1 h).symm
  | cons x xs ih =>
    cases ys with
    | nil => exact absurd (List.perm_nil.1 h) (by simp)
    | cons y ys =>
      have hx : x = y := by
        have a1 := List.pairwise_cons.1 h1
        have a2 := List.pairwise_cons.1 h2
        have m1 : x ∈ y :: ys := h.subset (by simp)
        have m2 : y ∈ x :: xs := h.symm.subset (by simp)
        rcases List.mem_cons.1 m1 with e | m1
        · exact e
        · rcases List.mem_cons.1 m2 with e | m2
          · exact e.symm
          · have := a1.1 y m2; have := a2.1 x m1; omega
      subst hx
      rw [ih (List.Perm.cons_inv h) (List.pairwise_cons.1 h1).2 (List.pairwise_cons.1 h2).2]
end Go.Proofs.Ytkkolodolmppnaa.Cv
