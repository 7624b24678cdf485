/-
  What the two partitions of slices' sort share, at uint64: a row of which all up to i is low, all from j on isn't.
-/
import Derived.Test.YtkkolodolmppnaaSoIns
import Derived.Sort.LotC
import Derived.BigRegion
namespace Go.Proofs.Ytkkolodolmppnaa.So
open Go.RowKit
set_option linter.unusedVariables false

abbrev lowP (p x : Int) : Bool := Sort.ltInt x p
abbrev lowE (p x : Int) : Bool := !Sort.ltInt p x
/-- d is permuted from a on, below b; p stands at a; all between a and i is low, all behind j, below b, isn't; nothing else is written. -/
def Pt (low : Int → Int → Bool) (w : World) (blk off a b : Nat) (d : Array Int) (p : Int) (i j : Nat) (dk : Array Int) (W : World) : Prop :=
  Sort.PermIn a b d dk ∧ dk[a]! = p ∧ (∀ t, a < t → t < i → low p dk[t]! = true) ∧ (∀ t, j < t → t < b → low p dk[t]! = false) ∧ SU w blk off dk W
variable {low : Int → Int → Bool} {w W : World} {blk off a b : Nat} {d dk : Array Int} {p : Int} {i j : Nat}
theorem Pt.drewN (h : Pt low w blk off a b d p i j dk W) (n : Nat) : Pt low w blk off a b d p i j dk (W.drewN n) := ⟨h.1, h.2.1, h.2.2.1, h.2.2.2.1, h.2.2.2.2.drewN n⟩
theorem Pt.size (h : Pt low w blk off a b d p i j dk W) : dk.size = d.size := h.1.1
theorem Pt.su (h : Pt low w blk off a b d p i j dk W) : SU w blk off dk W := h.2.2.2.2
theorem Pt.up (h : Pt low w blk off a b d p i j dk W) (hl : low dk[a]! dk[i]! = true) : Pt low w blk off a b d p (i + 1) j dk W :=
  ⟨h.1, h.2.1, fun t h1 h2 => by
    rcases Nat.lt_or_ge t i with h3 | h3
    · exact h.2.2.1 t h1 h3
    · rw [show t = i by omega, ← h.2.1]; exact hl, h.2.2.2⟩
theorem Pt.down (h : Pt low w blk off a b d p i j dk W) (hj : 0 < j) (hl : low dk[a]! dk[j]! = false) : Pt low w blk off a b d p i (j - 1) dk W :=
  ⟨h.1, h.2.1, h.2.2.1, fun t h1 h2 => by
    rcases Nat.lt_or_ge j t with h3 | h3
    · exact h.2.2.2.1 t h3 h2
    · rw [show t = j by omega, ← h.2.1]; exact hl, h.2.2.2.2⟩
theorem Pt.lt (h1 : low dk[a]! dk[i]! = false) (h2 : low dk[a]! dk[j]! = true) (hij : i ≤ j) : i < j := by
  rcases Nat.lt_or_ge i j with h | h
  · exact h
  · rw [show i = j by omega, h2] at h1; cases h1
theorem Pt.swap (h : Pt low w blk off a b d p i j dk W) (h1 : low dk[a]! dk[i]! = false) (h2 : low dk[a]! dk[j]! = true) (hai : a < i) (hij : i < j) (hjb : j < b) (hb : b ≤ d.size) {V : World} (hV : SU w blk off (Sort.swp dk i j) V) :
    Pt low w blk off a b d p (i + 1) (j - 1) (Sort.swp dk i j) V := by
  have hs := h.size
  refine ⟨Sort.permIn_trans _ _ _ a b h.1 (Sort.swp_permIn dk a b i j (by omega) (by omega) (by omega) hjb (by omega)), ?_, fun t k1 k2 => ?_, fun t k1 k2 => ?_, hV⟩
  · rw [Sort.swp_other _ _ _ _ (by omega) (by omega)]; exact h.2.1
  · rcases Nat.lt_or_ge t i with h3 | h3
    · rw [Sort.swp_other _ _ _ _ (by omega) (by omega)]; exact h.2.2.1 t k1 h3
    · rw [show t = i by omega, Sort.swp_left _ _ _ (by omega) (by omega), ← h.2.1]; exact h2
  · rcases Nat.lt_or_ge j t with h3 | h3
    · rw [Sort.swp_other _ _ _ _ (by omega) (by omega)]; exact h.2.2.2.1 t h3 k2
    · rw [show t = j by omega, Sort.swp_right _ _ _ (by omega), ← h.2.1]; exact h1
/-- The pivot goes where it belongs. -/
theorem Pt.last (h : Pt low w blk off a b d p i j dk W) (hij : j < i) (haj : a ≤ j) (hjb : j < b) (hb : b ≤ d.size) (hp : ∀ t, a < t → t ≤ j → low p dk[t]! = true) :
    Sort.PermIn a b d (Sort.swp dk j a) ∧ (Sort.swp dk j a)[j]! = p ∧ (∀ t, a ≤ t → t < j → low p (Sort.swp dk j a)[t]! = true) ∧ (∀ t, j < t → t < b → low p (Sort.swp dk j a)[t]! = false) := by
  have hs := h.size
  refine ⟨Sort.permIn_trans _ _ _ a b h.1 (Sort.swp_permIn dk a b j a (by omega) (by omega) (Nat.le_refl _) (by omega) (by omega)), ?_, fun t k1 k2 => ?_, fun t k1 k2 => ?_⟩
  · by_cases e : j = a
    · subst e; rw [Sort.swp_right _ _ _ (by omega)]; exact h.2.1
    · rw [Sort.swp_left _ _ _ (by omega) e]; exact h.2.1
  · by_cases e : t = a
    · subst e; rw [Sort.swp_right _ _ _ (by omega)]; exact hp j (by omega) (Nat.le_refl _)
    · rw [Sort.swp_other _ _ _ _ (by omega) e]; exact hp t (by omega) (by omega)
  · rw [Sort.swp_other _ _ _ _ (by omega) (by omega)]; exact h.2.2.2.1 t k1 k2
theorem Pt.start (low : Int → Int → Bool) {w : World} {blk off a b pv : Nat} {d : Array Int} (hap : a ≤ pv) (hpb : pv < b) (hb : b ≤ d.size) {V : World} (hV : SU w blk off (Sort.swp d a pv) V) :
    Pt low w blk off a b d d[pv]! (a + 1) (b - 1) (Sort.swp d a pv) V := by
  refine ⟨Sort.swp_permIn d a b a pv (Nat.le_refl _) (by omega) hap hpb hb, ?_, fun t h1 h2 => absurd h2 (by omega), fun t h1 h2 => absurd h2 (by omega), hV⟩
  by_cases e : a = pv
  · subst e; rw [Sort.swp_right _ _ _ (by omega)]
  · rw [Sort.swp_left _ _ _ (by omega) e]
def UpR (low : Int → Int → Bool) (w : World) (blk off a b : Nat) (d : Array Int) (p : Int) (i j : Nat) (dk : Array Int) (vi : Value) (wr : World) : Prop :=
  ∃ i' : Nat, vi = .int .i64 i' ∧ i ≤ i' ∧ i' ≤ j + 1 ∧ Pt low w blk off a b d p i' j dk wr
def DnR (low : Int → Int → Bool) (w : World) (blk off a b : Nat) (d : Array Int) (p : Int) (i j : Nat) (dk : Array Int) (vj : Value) (wr : World) : Prop :=
  ∃ j' : Nat, vj = .int .i64 j' ∧ j' ≤ j ∧ i ≤ j' + 1 ∧ Pt low w blk off a b d p i j' dk wr
def LoR (low : Int → Int → Bool) (w : World) (blk off a b : Nat) (d : Array Int) (p : Int) (vi vj : Value) (wr : World) : Prop :=
  ∃ (i j : Nat) (dk : Array Int), vi = .int .i64 i ∧ vj = .int .i64 j ∧ a < i ∧ i ≤ j + 1 ∧ j < b ∧ Pt low w blk off a b d p i j dk wr
def ijOf : Value → Value → Nat | .int _ q, .int _ r => (r + 1 - q).toNat | _, _ => 0
end Go.Proofs.Ytkkolodolmppnaa.So
