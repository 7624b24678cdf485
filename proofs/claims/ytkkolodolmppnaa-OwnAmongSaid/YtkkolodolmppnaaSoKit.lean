/-
  The sort of uint64: a row of numbers in one block, in a world that has come of another one by growth and by what was written into that block alone. No program here.
-/
import Derived.Sort.Row
import Derived.OwnWalk
import Derived.WalkKit
import Derived.Below
import Derived.Lib.Hide
import Derived.Deep.Draws
namespace Go.Proofs.Ytkkolodolmppnaa.So
open Go.RowKit
set_option linter.unusedVariables false

/-- The row's cells hold d, and may be written. -/
abbrev HU (W : World) (blk off : Nat) (d : Array Int) : Prop := Sort.Holds (Value.int .u64) W blk off d
/-- W has come of w: nothing but the row's block has been written, and the row holds d. -/
def SU (w : World) (blk off : Nat) (d : Array Int) (W : World) : Prop := HU W blk off d ∧ w.grownBy W (some blk)

theorem grown_trans {a b c : World} {r : Option Nat} (h : a.grownBy b r) (k : b.grownBy c r) : a.grownBy c r :=
  ⟨k.os.trans h.os, k.tape.trans h.tape, k.output.trans h.output, Nat.le_trans h.size k.size,
    fun i hi hr => (k.block i (Nat.lt_of_lt_of_le hi h.size) hr).trans (h.block i hi hr)⟩
theorem grown_drewN {a b : World} {r : Option Nat} (h : a.grownBy b r) (n : Nat) : a.grownBy (b.drewN n) r := ⟨h.os, h.tape, h.output, h.size, h.block⟩
theorem grown_set {a b : World} {blk o : Nat} (h : a.grownBy b (some blk)) (v : Value) : a.grownBy (b.setCell ⟨blk, o, none⟩ v) (some blk) :=
  ⟨h.os, h.tape, h.output, by simpa using h.size, fun k hk hne => by
    rw [Below.heap_setCell b ⟨blk, o, none⟩ v k (fun e => hne (by rw [e]))]; exact h.block k hk hne⟩
theorem grown_any {a b : World} {r : Option Nat} (h : Below a.heap.size a b) : a.grownBy b r := ⟨h.os, h.tape, h.output, h.size, fun k hk _ => h.block k hk⟩

theorem SU.start {w : World} {blk off : Nat} {d : Array Int} (h : HU w blk off d) : SU w blk off d w := ⟨h, World.grownBy.refl _ _⟩
theorem SU.trans {w W V : World} {blk off : Nat} {d d' : Array Int} (h : SU w blk off d W) (k : SU W blk off d' V) : SU w blk off d' V := ⟨k.1, grown_trans h.2 k.2⟩
theorem SU.drewN {w W : World} {blk off : Nat} {d : Array Int} (h : SU w blk off d W) (n : Nat) : SU w blk off d (W.drewN n) := ⟨h.1, grown_drewN h.2 n⟩
theorem SU.drew {w W : World} {blk off : Nat} {d : Array Int} (h : SU w blk off d W) : SU w blk off d W.drew := ⟨h.1, grown_drewN h.2 1⟩
theorem SU.c {w W : World} {blk off : Nat} {d : Array Int} (h : SU w blk off d W) (t : Nat) (ht : t < d.size) : W.cell? ⟨blk, off + t, none⟩ = some (.int .u64 d[t]!) := (h.1 t ht).1
theorem SU.f {w W : World} {blk off : Nat} {d : Array Int} (h : SU w blk off d W) (t : Nat) (ht : t < d.size) : W.frozen? ⟨blk, off + t, none⟩ = false := (h.1 t ht).2
theorem HU.lt {W : World} {blk off : Nat} {d : Array Int} (h : HU W blk off d) (h0 : 0 < d.size) : blk < W.heap.size := World.block_lt_of_cell? W ⟨blk, off + 0, none⟩ (h 0 h0).1
theorem SU.swap {w W : World} {blk off : Nat} {d : Array Int} (h : SU w blk off d W) (i j : Nat) (hi : i < d.size) (hj : j < d.size) :
    SU w blk off (Sort.swp d i j) ((W.setCell ⟨blk, off + i, none⟩ (.int .u64 d[j]!)).setCell ⟨blk, off + j, none⟩ (.int .u64 d[i]!)) := by
  refine ⟨?_, grown_set (grown_set h.2 _) _⟩
  have e := Sort.putRow_swp (Value.int .u64) W blk off d i j hi hj
  rw [Sort.putRow_self _ W blk off d h.1] at e
  show Sort.Holds (Value.int .u64) _ blk off _
  rw [e]
  exact Sort.holds_putRow (Value.int .u64) W blk off d _ h.1 (Sort.size_swp d i j)
/-- As a walk leaves an exchange: draws ahead of it, one behind. -/
theorem SU.swapped {w W : World} {blk off : Nat} {d : Array Int} (h : SU w blk off d W) (i j : Nat) (hi : i < d.size) (hj : j < d.size) :
    SU w blk off (Sort.swp d i j) ((W.setCell ⟨blk, off + i, none⟩ (.int .u64 d[j]!)).setCell ⟨blk, off + j, none⟩ (.int .u64 d[i]!)).drew := (h.swap i j hi hj).drew
theorem SU.old {w W : World} {blk off : Nat} {d : Array Int} (h : SU w blk off d W) (i j : Nat) (hi : i < d.size) (hj : j < d.size) (v : Value) :
    ∃ u, (W.setCell ⟨blk, off + i, none⟩ v).cell? ⟨blk, off + j, none⟩ = some u := by
  by_cases e : i = j
  · subst e; exact ⟨v, World.cell?_setCell_same _ _ _ (h.c i hi)⟩
  · exact ⟨_, (World.cell?_setCell_other _ _ _ _ (by intro e'; simp only [Addr.mk.injEq] at e'; omega)).trans (h.c j hj)⟩
theorem SU.alloc {w W : World} {blk off : Nat} {d : Array Int} (h : SU w blk off d W) (hb : blk < W.heap.size) (o : Obj) : SU w blk off d (W.alloc o) :=
  ⟨fun t ht => by
    have e := Below.heap_alloc W o blk hb
    exact ⟨(World.cell?_of_block (w := W) (a := ⟨blk, off + t, none⟩) e).trans (h.c t ht), (World.frozen?_of_block (w := W) (a := ⟨blk, off + t, none⟩) e).trans (h.f t ht)⟩,
    grown_trans h.2 (World.grownBy_alloc W o _)⟩
/-- A block other than the row's is written, one that was not there at the beginning. -/
theorem SU.other {w W V : World} {blk off c : Nat} {d : Array Int} (h : SU w blk off d W) (hb : blk < W.heap.size) (hc : w.heap.size ≤ c) (hne : c ≠ blk) (hg : W.grownBy V (some c)) : SU w blk off d V := by
  have e : V.heap[blk]? = W.heap[blk]? := hg.block blk hb (by intro e; simp at e; exact hne e.symm)
  refine ⟨fun t ht => ⟨(World.cell?_of_block (w := W) (a := ⟨blk, off + t, none⟩) e).trans (h.c t ht), (World.frozen?_of_block (w := W) (a := ⟨blk, off + t, none⟩) e).trans (h.f t ht)⟩, ?_⟩
  exact ⟨hg.os.trans h.2.os, hg.tape.trans h.2.tape, hg.output.trans h.2.output, Nat.le_trans h.2.size hg.size, fun k hk hr =>
    (hg.block k (Nat.lt_of_lt_of_le hk h.2.size) (by intro e'; simp at e'; omega)).trans (h.2.block k hk hr)⟩
def nOf : Value → Nat | .int _ q => q.toNat | _ => 0
end Go.Proofs.Ytkkolodolmppnaa.So
