/-
  Contracts of slices.order2Ordered, medianOrdered, medianAdjacentOrdered and choosePivotOrdered at uint64: the row is only read; which place is chosen is told by its bounds alone.
-/
import Derived.Test.YtkkolodolmppnaaSoLess
import Derived.Sort.LotA
import Derived.Sort.AtCall
import Derived.BigGuard
import Derived.BigCall
import Derived.CellFam
import Derived.Deep.QuietTactic
import Derived.BigQuiet
import Derived.Deep.RegionWith
namespace Go.Proofs.Ytkkolodolmppnaa.So
open Go.RowKit
set_option linter.unusedVariables false

/-- W has come of w: nothing but the counter's block has been written, and the counter is s. -/
def CU (w : World) (sb s : Nat) (W : World) : Prop := W.cell? ⟨sb, 0, none⟩ = some (.int .i64 s) ∧ W.frozen? ⟨sb, 0, none⟩ = false ∧ w.grownBy W (some sb)
theorem CU.trans {w W V : World} {sb s t : Nat} (h : CU w sb s W) (k : CU W sb t V) : CU w sb t V := ⟨k.1, k.2.1, grown_trans h.2.2 k.2.2⟩
theorem CU.drewN {w W : World} {sb s : Nat} (h : CU w sb s W) (n : Nat) : CU w sb s (W.drewN n) := ⟨h.1, h.2.1, grown_drewN h.2.2 n⟩
theorem CU.row {w W : World} {sb s blk off : Nat} {d : Array Int} (h : CU w sb s W) (hH : HU w blk off d) (hb : blk < w.heap.size) (hne : sb ≠ blk) : HU W blk off d := fun t ht => by
  have e : W.heap[blk]? = w.heap[blk]? := h.2.2.block blk hb (by intro e; simp at e; exact hne e.symm)
  exact ⟨(World.cell?_of_block (w := w) (a := ⟨blk, off + t, none⟩) e).trans (hH t ht).1, (World.frozen?_of_block (w := w) (a := ⟨blk, off + t, none⟩) e).trans (hH t ht).2⟩

theorem order2_any (blk off cap a b sb s : Nat) (d : Array Int) (w : World) (hH : HU w blk off d) (ha : a < d.size) (hb : b < d.size) (hC : CU w sb s w) (hs : s < 1000) (hsz : d.size < 2305843009213693952) :
    Calls Try.prog 61 #[.slice (some ⟨blk, off, none⟩) d.size cap, .int .i64 a, .int .i64 b, .pointer (some ⟨sb, 0, none⟩)] w fun e w' =>
      ∃ p q t : Nat, e = .returned (.tuple #[.int .i64 p, .int .i64 q]) ∧ ((p = a ∧ q = b) ∨ (p = b ∧ q = a)) ∧ t ≤ s + 1 ∧ CU w sb t w' := by
  obtain ⟨G, hG⟩ : ∃ G : Nat → Int, ∀ t, G t = d[t]! := ⟨fun t => d[t]!, fun _ => rfl⟩
  have hcw : ∀ t, t < d.size → w.cell? ⟨blk, off + t, none⟩ = some (.int .u64 (G t)) := fun t ht => by rw [hG]; exact (hH t ht).1
  have hcs := hC.1
  have hfs := hC.2.1
  have HC := Lib.hid hC
  clear hH hG hC
  go_enter Try.func61, Try.ntmps61
  go_wp2
  go_quiet (first | (go_at_call 50; refine Calls.quiet_of_same (less_any _ _ _)))
  go_wp2
  · refine bodyPost_ret (v := .tuple #[.int .i64 b, .int .i64 a]) (by simp [results, Try.results61, go_sem]) rfl ⟨b, a, s + 1, rfl, Or.inr ⟨rfl, rfl⟩, Nat.le_refl _, ?_⟩
    refine ⟨?_, ?_, grown_set (HC.out.drewN nq).2.2 _⟩
    · rw [World.cell?_setCell_same _ _ _ (HC.out.drewN nq).1]; simp
    · rw [World.frozen?_setCell]; exact HC.out.2.1
  · refine bodyPost_ret (v := .tuple #[.int .i64 a, .int .i64 b]) (by simp [results, Try.results61, go_sem]) rfl ⟨a, b, s, rfl, Or.inl ⟨rfl, rfl⟩, Nat.le_succ _, ?_⟩
    exact HC.out.drewN nq

theorem median_any (blk off cap a b c sb s : Nat) (d : Array Int) (w : World) (hH : HU w blk off d) (hblk : blk < w.heap.size) (hne : sb ≠ blk) (ha : a < d.size) (hb : b < d.size) (hc : c < d.size) (hC : CU w sb s w) (hs : s < 900) (hsz : d.size < 2305843009213693952) :
    Calls Try.prog 59 #[.slice (some ⟨blk, off, none⟩) d.size cap, .int .i64 a, .int .i64 b, .int .i64 c, .pointer (some ⟨sb, 0, none⟩)] w fun e w' =>
      ∃ p t : Nat, e = .returned (.int .i64 p) ∧ (p = a ∨ p = b ∨ p = c) ∧ t ≤ s + 3 ∧ CU w sb t w' := by
  go_enter Try.func59, Try.ntmps59
  go_wp2_with fail
  refine (order2_any blk off cap a b sb s d w hH ha hb hC (by omega) hsz).mono ?_
  rintro e w1 ⟨p1, q1, t1, rfl, hpq1, ht1, hC1⟩
  have H1 : p1 < d.size ∧ q1 < d.size := by omega
  have HH1 := hC1.row hH hblk hne
  have K1 : CU w1 sb t1 w1 := ⟨hC1.1, hC1.2.1, World.grownBy.refl _ _⟩
  go_wp2_with fail
  refine (order2_any blk off cap q1 c sb t1 d w1 HH1 H1.2 hc K1 (by omega) hsz).mono ?_
  rintro e w2 ⟨p2, q2, t2, rfl, hpq2, ht2, hC2⟩
  have H2 : p2 < d.size ∧ q2 < d.size := by omega
  have HH2 := (hC1.trans hC2).row hH hblk hne
  have K2 : CU w2 sb t2 w2 := ⟨hC2.1, hC2.2.1, World.grownBy.refl _ _⟩
  go_wp2_with fail
  refine (order2_any blk off cap p1 p2 sb t2 d w2 HH2 H1.1 H2.1 K2 (by omega) hsz).mono ?_
  rintro e w3 ⟨p3, q3, t3, rfl, hpq3, ht3, hC3⟩
  go_wp2_with fail
  go_ret
  exact ⟨q3, t3, rfl, by omega, by omega, (hC1.trans hC2).trans hC3⟩

theorem adj_any (blk off cap a sb s : Nat) (d : Array Int) (w : World) (hH : HU w blk off d) (hblk : blk < w.heap.size) (hne : sb ≠ blk) (ha : 1 ≤ a) (hb : a + 1 < d.size) (hC : CU w sb s w) (hs : s < 900) (hsz : d.size < 2305843009213693952) :
    Calls Try.prog 58 #[.slice (some ⟨blk, off, none⟩) d.size cap, .int .i64 a, .pointer (some ⟨sb, 0, none⟩)] w fun e w' =>
      ∃ p t : Nat, e = .returned (.int .i64 p) ∧ a - 1 ≤ p ∧ p ≤ a + 1 ∧ t ≤ s + 3 ∧ CU w sb t w' := by
  have hm := median_any blk off cap (a - 1) a (a + 1) sb s d w hH hblk hne (by omega) (by omega) (by omega) hC hs hsz
  rw [show ((a - 1 : Nat) : Int) = (a : Int) - 1 by omega, show ((a + 1 : Nat) : Int) = (a : Int) + 1 by omega] at hm
  go_enter Try.func58, Try.ntmps58
  go_wp2_with fail
  refine hm.mono ?_
  rintro e w1 ⟨p, t, rfl, hp, ht, hC1⟩
  go_wp2_with fail
  go_ret
  exact ⟨p, t, rfl, by omega, by omega, ht, hC1⟩

theorem cu_start (w : World) : CU (w.alloc (.cells #[.int .i64 0] 3)) w.heap.size 0 (w.alloc (.cells #[.int .i64 0] 3)) :=
  ⟨by simp, by simp, World.grownBy.refl _ _⟩
theorem cu_below {w W : World} {o : Obj} {s : Nat} (h : CU (w.alloc o) w.heap.size s W) : Below w.heap.size w W :=
  ⟨h.2.2.os, h.2.2.tape, h.2.2.output, Nat.le_trans (by simp) h.2.2.size, fun k hk => (h.2.2.block k (by simp; omega) (by intro e; simp at e; omega)).trans (Below.heap_alloc w o k hk)⟩
end Go.Proofs.Ytkkolodolmppnaa.So
