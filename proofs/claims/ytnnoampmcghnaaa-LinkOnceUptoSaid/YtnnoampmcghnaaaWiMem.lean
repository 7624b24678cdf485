/-
  Bytes that a call owns, in a slice; a writer that holds such; steps that leave all else. No function of the program here.
-/
import Derived.Test.YtnnoampmcghnaaaWiPlain
import Derived.Test.YtnnoampmcghnaaaFlMem
import Derived.Test.YtnnoampmcghnaaaProg
import Derived.WalkKit
import Derived.WalkSpells
import Derived.Below
import Derived.Handy
import Derived.Lib.Hide
import Derived.Maps.AppendAt
import Derived.Lib.AppendStr
import Derived.Laws.IdiomStrings
namespace Go.Proofs.Ytnnoampmcghnaaa.Wi
open Go.RowKit Go.Proofs.Ytnnoampmcghnaaa.Fl
set_option linter.unusedVariables false
set_option linter.unusedSimpArgs false

/-- Bytes as cells. -/
def byC (l : List UInt8) : List Value := l.map fun b => Value.int .u8 (b.toNat : Int)
theorem byC_length (l : List UInt8) : (byC l).length = l.length := by simp [byC]
theorem byC_app (l r : List UInt8) : byC (l ++ r) = byC l ++ byC r := by simp [byC]
theorem byC_one (l : List UInt8) : ∀ u ∈ byC l, u.oneCell' = true := by
  intro u hu
  simp only [byC, List.mem_map] at hu
  obtain ⟨b, _, rfl⟩ := hu
  rfl
theorem byC_str (s : ByteArray) : Lib.strCells s = byC s.data.toList := rfl
/-- These bytes are the call's own, in blocks from z on. -/
def OB (W : World) (z : Nat) (v : Value) (l : List UInt8) : Prop := W.ownsRow z 5 1 v l.length (byC l)
/-- All old blocks but p and v's own are as they were; behind it v' stands for v. -/
structure Step (w w' : World) (p : Option Nat) (v v' : Value) : Prop where
  os : w'.os = w.os
  tape : w'.tape = w.tape
  output : w'.output = w.output
  size : w.heap.size ≤ w'.heap.size
  block : ∀ k, k < w.heap.size → some k ≠ p → some k ≠ v.ownBlock → w'.heap[k]? = w.heap[k]?
  nxt : v'.ownBlock = v.ownBlock ∨ ∃ b, v'.ownBlock = some b ∧ w.heap.size ≤ b
theorem Step.refl (w : World) (p : Option Nat) (v : Value) : Step w w p v v := ⟨rfl, rfl, rfl, Nat.le_refl _, fun _ _ _ _ => rfl, Or.inl rfl⟩
theorem Step.trans {a b c : World} {p : Option Nat} {u v x : Value} (h : Step a b p u v) (k : Step b c p v x) : Step a c p u x := by
  refine ⟨k.os.trans h.os, k.tape.trans h.tape, k.output.trans h.output, Nat.le_trans h.size k.size, fun i hi hp hu => ?_, ?_⟩
  · refine (k.block i (Nat.lt_of_lt_of_le hi h.size) hp ?_).trans (h.block i hi hp hu)
    rcases h.nxt with e | ⟨b, e, hb⟩
    · rw [e]; exact hu
    · rw [e]; intro e2; cases e2; omega
  · rcases k.nxt with e | ⟨b, e, hb⟩
    · rcases h.nxt with e2 | ⟨b, e2, hb⟩
      · exact Or.inl (e.trans e2)
      · exact Or.inr ⟨b, e.trans e2, hb⟩
    · exact Or.inr ⟨b, e, Nat.le_trans h.size hb⟩
theorem Step.below {w W V : World} {p : Option Nat} {v v' : Value} (h : Step w W p v v') (hb : Below W.heap.size W V) : Step w V p v v' :=
  ⟨hb.os.trans h.os, hb.tape.trans h.tape, hb.output.trans h.output, Nat.le_trans h.size hb.size, fun k hk hp hv => (hb.block k (Nat.lt_of_lt_of_le hk h.size)).trans (h.block k hk hp hv), h.nxt⟩
theorem below_alloc (W : World) (o : Obj) : Below W.heap.size W (W.alloc o) := (Below.refl _ _).alloc (Nat.le_refl _) _
theorem Step.alloc {w W : World} {p : Option Nat} {v v' : Value} (h : Step w W p v v') (o : Obj) : Step w (W.alloc o) p v v' := h.below (below_alloc W o)
theorem Step.set {w W : World} {p : Nat} {v v' : Value} (h : Step w W (some p) v v') (j : Nat) (u : Value) : Step w (W.setCell ⟨p, j, none⟩ u) (some p) v v' :=
  ⟨h.os, h.tape, h.output, by have := h.size; simpa [World.setCell] using this, fun k hk hp hv => (Below.heap_setCell _ _ _ _ (by simpa using hp)).trans (h.block k hk hp hv), h.nxt⟩
theorem Step.grown {w W V : World} {p : Option Nat} {v v' v2 : Value} (h : Step w W p v v') (hg : W.grownBy V v'.ownBlock) (hat : v2.ownBlock = v'.ownBlock ∨ ∃ b, v2.ownBlock = some b ∧ W.heap.size ≤ b) : Step w V p v v2 :=
  h.trans ⟨hg.os, hg.tape, hg.output, hg.size, fun k hk _ hv => hg.block k hk hv, hat⟩
theorem atN {a b : Option Nat} {n : Nat} (h : a = b ∨ a = some n) : a = b ∨ ∃ m, a = some m ∧ n ≤ m := h.imp id fun e => ⟨_, e, Nat.le_refl _⟩
/-- What is below both is as it was. -/
theorem Step.old {w W : World} {p : Option Nat} {v v' : Value} (h : Step w W p v v') {z : Nat} (hz : z ≤ w.heap.size) (hp : ∀ k, p = some k → z ≤ k) (hv : ∀ k, v.ownBlock = some k → z ≤ k) : Below z w W :=
  ⟨h.os, h.tape, h.output, h.size, fun k hk => h.block k (by omega) (fun e => by have := hp k e.symm; omega) (fun e => by have := hv k e.symm; omega)⟩
theorem OB.nil (W : World) (z : Nat) : OB W z (.slice none 0 0) [] := World.ownsRow_nil _ _ _ _
theorem OB.lt {W : World} {z : Nat} {v : Value} {l : List UInt8} (h : OB W z v l) {k : Nat} (hk : v.ownBlock = some k) : z ≤ k ∧ k < W.heap.size := World.ownsRow.lt h k hk
theorem OB.keep {W V : World} {z : Nat} {v : Value} {l : List UInt8} (h : OB W z v l) (hk : ∀ g, v.ownBlock = some g → V.heap[g]? = W.heap[g]?) : OB V z v l := by
  obtain ⟨h1, h2⟩ := h
  refine ⟨h1, ?_⟩
  rcases h2 with h2 | ⟨g, cap, cur, e, hb, hh, r⟩
  · exact Or.inl h2
  · refine Or.inr ⟨g, cap, cur, e, hb, ?_, r⟩
    rw [hk g (by rw [e]; rfl)]
    exact hh
theorem OB.later {W V : World} {z : Nat} {v : Value} {l : List UInt8} (h : OB W z v l) (hb : Below W.heap.size W V) : OB V z v l := h.keep fun g hg => hb.block g (h.lt hg).2
theorem OB.mono {W : World} {z z' : Nat} {v : Value} {l : List UInt8} (h : OB W z v l) (hz : z' ≤ z) : OB W z' v l := by
  obtain ⟨h1, h2⟩ := h
  refine ⟨h1, ?_⟩
  rcases h2 with h2 | ⟨g, cap, cur, e, hb, r⟩
  · exact Or.inl h2
  · exact Or.inr ⟨g, cap, cur, e, by omega, r⟩
/-- A value that owns bytes is a slice of so many. -/
theorem OB.shape {W : World} {z : Nat} {v : Value} {l : List UInt8} (h : OB W z v l) : ∃ a c, v = .slice a l.length c ∧ l.length ≤ c ∧ (0 < l.length → ∃ g, a = some ⟨g, 0, none⟩ ∧ z ≤ g ∧ g < W.heap.size) ∧ ∀ g, a = some ⟨g, 0, none⟩ → ∀ j (hj : j < l.length), W.cell? ⟨g, j, none⟩ = some (.int .u8 (l[j].toNat : Int)) := by
  rcases h.2 with ⟨e, h0⟩ | ⟨g, cap, cur, e, hb, hh, hn, _⟩
  · refine ⟨none, 0, by rw [e, h0], by omega, fun h => by omega, fun g e2 => by cases e2⟩
  · refine ⟨some ⟨g, 0, none⟩, cap, e, hn, fun _ => ⟨g, rfl, hb, (Array.getElem?_eq_some_iff.1 hh).1⟩, fun g' e2 j hj => ?_⟩
    cases e2
    have := World.ownsRow.cells h (g := g) (by rw [e]; rfl) j (.int .u8 (l[j].toNat : Int)) (by simp [byC, hj])
    rwa [show ((⟨g, 0, none⟩ : Addr).add j) = ⟨g, j, none⟩ by unfold Addr.add; split <;> simp_all] at this
/-- What a call tells that hands a slice of bytes back. -/
def OutEnd (z : Nat) (l : List UInt8) (v : Value) (w w' : World) (e : Ending) : Prop := ∃ v', e = .returned v' ∧ OB w' z v' l ∧ Step w w' none v v'
theorem numL_length : ∀ (k n : Nat), n < 128 ^ (k + 1) → (numL n).length ≤ k + 1
  | 0, n, h => by rw [numL_small (by simpa using h)]; simp
  | k + 1, n, h => by
    by_cases h1 : n < 128
    · rw [numL_small h1]; simp
    · rw [numL_large h1, List.length_cons]
      have := numL_length k (n / 128) (by rw [Nat.pow_succ] at h; omega)
      omega
theorem numL_ten {n : Nat} (h : n < 18446744073709551616) : (numL n).length ≤ 10 := numL_length 9 n (by have : (128 : Nat) ^ (9 + 1) = 1180591620717411303424 := by decide
                                                                                                        omega)
theorem wrapU {x : Int} {n : Nat} (h : x = (n : Int)) (h1 : n < 18446744073709551616) : IntKind.u64.wrap x = (n : Int) := by
  rw [h, IntKind.wrap_u64]; omega
theorem own_slice {W : World} {z k n : Nat} {t : TypeId} {v : Value} {xs : List Value} (h : W.ownsRow z t k v n xs) : ∃ a m c, v = .slice a m c := by
  rcases h.2 with ⟨e, h0⟩ | ⟨g, cap, cur, e, -⟩
  · exact ⟨none, 0, 0, e⟩
  · exact ⟨_, _, _, e⟩
theorem infoB : (Try.prog.info? 5).map (fun i => (i.zero, i.size, i.bytes)) = some (some (.int .u8 0), 1, 1) := by kernel_rfl
/-- One byte in a new block. -/
theorem new_byte (w : World) (x : Value) (t : TypeId) : ∀ j u, [x][j]? = some u → (w.alloc (.cells #[x] t)).cell? ((⟨w.heap.size, 0, none⟩ : Addr).add j) = some u := cell_one_new w x t
theorem one_byte (x : Int) : ∀ u ∈ [Value.int .u8 x], u.oneCell' = true := by intro u hu; simp at hu; rw [hu]; rfl
end Go.Proofs.Ytnnoampmcghnaaa.Wi
