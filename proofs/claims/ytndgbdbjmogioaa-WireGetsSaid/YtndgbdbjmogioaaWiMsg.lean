/-
  Events and messages in memory; blocks beside a writer's. No function of the program here.
-/
import Derived.Test.YtndgbdbjmogioaaWiTxt
namespace Go.Proofs.Ytndgbdbjmogioaa.Wi
open Go.RowKit Go.Proofs.Ytndgbdbjmogioaa.Fl
set_option linter.unusedVariables false
set_option linter.unusedSimpArgs false

theorem ev_put (e : Ev) : evF.put e = numL e.pub.toNat ++ (numL e.seq ++ (numL (zig e.x) ++ (numL (zig e.y) ++ (numL e.attrs.length ++ putAll attF.put e.attrs)))) := rfl
theorem att_text (nm : List UInt8) (n : Int) (s : List UInt8) : attF.put ⟨nm, true, n, s⟩ = (numL nm.length ++ nm) ++ (numL 1 ++ (numL s.length ++ s)) := rfl
theorem att_num (nm : List UInt8) (n : Int) (s : List UInt8) : attF.put ⟨nm, false, n, s⟩ = (numL nm.length ++ nm) ++ (numL 0 ++ numL (zig n)) := rfl
theorem putAll_snoc {α : Type} (f : α → List UInt8) : ∀ (l : List α) (a : α), putAll f (l ++ [a]) = putAll f l ++ f a
  | [], a => by simp [putAll]
  | b :: l, a => by
    have := putAll_snoc f l a
    simp only [List.cons_append, putAll, this, List.append_assoc]
theorem putAll_take {α : Type} (f : α → List UInt8) (l : List α) {k : Nat} (h : k < l.length) : putAll f (l.take (k + 1)) = putAll f (l.take k) ++ f l[k] := by
  rw [List.take_succ_eq_append_getElem h, putAll_snoc]
theorem putAll_le {α : Type} (f : α → List UInt8) (l : List α) (k : Nat) : (putAll f (l.take k)).length ≤ (putAll f l).length := by
  have h : ∀ (a b : List α), putAll f (a ++ b) = putAll f a ++ putAll f b := by
    intro a b
    induction a with
    | nil => rfl
    | cons x a ih => simp only [List.cons_append, putAll, ih, List.append_assoc]
  have h2 := h (l.take k) (l.drop k)
  rw [List.take_append_drop] at h2
  rw [h2, List.length_append]
  omega
/-- A block beside a writer's (or beside bytes that are handed on). -/
def Bx (W : World) (p : Option Nat) (v : Value) (b : Nat) (t : TypeId) (cs : Array Value) : Prop := W.heap[b]? = some (.cells cs t (0, 0)) ∧ some b ≠ p ∧ some b ≠ v.ownBlock
theorem Bx.lt {W : World} {p : Option Nat} {v : Value} {b : Nat} {t : TypeId} {cs : Array Value} (h : Bx W p v b t cs) : b < W.heap.size := (Array.getElem?_eq_some_iff.1 h.1).1
theorem Bx.step {W V : World} {p : Option Nat} {v v' : Value} {b : Nat} {t : TypeId} {cs : Array Value} (h : Bx W p v b t cs) (hs : Step W V p v v') : Bx V p v' b t cs := by
  refine ⟨(hs.block b h.lt h.2.1 h.2.2).trans h.1, h.2.1, ?_⟩
  rcases hs.nxt with e | ⟨g, e, hg⟩
  · rw [e]; exact h.2.2
  · rw [e]
    have := h.lt
    intro e2
    cases e2
    omega
theorem Bx.later {W V : World} {p : Option Nat} {v : Value} {b : Nat} {t : TypeId} {cs : Array Value} (h : Bx W p v b t cs) (hb : Below W.heap.size W V) : Bx V p v b t cs := ⟨(hb.block b h.lt).trans h.1, h.2⟩
theorem Bx.new {W : World} {p : Nat} {v : Value} {l : List UInt8} (h : WrAt W p v l) (cs : Array Value) (t : TypeId) : Bx (W.alloc (.cells cs t)) (some p) v W.heap.size t cs := by
  refine ⟨heap_alloc_new W _, ?_, fun e => ?_⟩
  · have := h.lt
    intro e
    cases e
    omega
  · have := (h.2.lt e.symm).2
    omega
theorem Bx.newO {W : World} {z : Nat} {v : Value} {l : List UInt8} (h : OB W z v l) (cs : Array Value) (t : TypeId) : Bx (W.alloc (.cells cs t)) none v W.heap.size t cs := by
  refine ⟨heap_alloc_new W _, by simp, fun e => ?_⟩
  have := (h.lt e.symm).2
  omega
theorem Bx.c4 {W : World} {p : Option Nat} {v : Value} {b : Nat} {t : TypeId} {x0 x1 x2 x3 : Value} (h : Bx W p v b t #[x0, x1, x2, x3]) : W.cell? ⟨b, 0, none⟩ = some x0 ∧ W.cell? ⟨b, 1, none⟩ = some x1 ∧ W.cell? ⟨b, 2, none⟩ = some x2 ∧ W.cell? ⟨b, 3, none⟩ = some x3 := by
  have h1 := h.1
  refine ⟨?_, ?_, ?_, ?_⟩ <;> simp [World.cell?, h1]
theorem Bx.c5 {W : World} {p : Option Nat} {v : Value} {b : Nat} {t : TypeId} {x0 x1 x2 x3 x4 : Value} (h : Bx W p v b t #[x0, x1, x2, x3, x4]) : W.cell? ⟨b, 0, none⟩ = some x0 ∧ W.cell? ⟨b, 1, none⟩ = some x1 ∧ W.cell? ⟨b, 2, none⟩ = some x2 ∧ W.cell? ⟨b, 3, none⟩ = some x3 ∧ W.cell? ⟨b, 4, none⟩ = some x4 := by
  have h1 := h.1
  refine ⟨?_, ?_, ?_, ?_, ?_⟩ <;> simp [World.cell?, h1]
theorem Bx.c14 {W : World} {p : Option Nat} {v : Value} {b : Nat} {t : TypeId} {x0 x1 x2 x3 x4 x5 x6 x7 x8 x9 x10 x11 x12 x13 : Value} (h : Bx W p v b t #[x0, x1, x2, x3, x4, x5, x6, x7, x8, x9, x10, x11, x12, x13]) : W.cell? ⟨b, 0, none⟩ = some x0 ∧ W.cell? ⟨b, 1, none⟩ = some x1 ∧ W.cell? ⟨b, 2, none⟩ = some x2 ∧ W.cell? ⟨b, 3, none⟩ = some x3 ∧ W.cell? ⟨b, 4, none⟩ = some x4 ∧ W.cell? ⟨b, 5, none⟩ = some x5 ∧ W.cell? ⟨b, 6, none⟩ = some x6 ∧ W.cell? ⟨b, 7, none⟩ = some x7 ∧ W.cell? ⟨b, 8, none⟩ = some x8 ∧ W.cell? ⟨b, 9, none⟩ = some x9 ∧ W.cell? ⟨b, 10, none⟩ = some x10 ∧ W.cell? ⟨b, 11, none⟩ = some x11 ∧ W.cell? ⟨b, 12, none⟩ = some x12 ∧ W.cell? ⟨b, 13, none⟩ = some x13 := by
  have h1 := h.1
  refine ⟨?_, ?_, ?_, ?_, ?_, ?_, ?_, ?_, ?_, ?_, ?_, ?_, ?_, ?_⟩ <;> simp [World.cell?, h1]
/-- A message's and an event's values. -/
def evV (e : Ev) (a : Option Addr) (c : Nat) : Value := .agg #[.int .i64 e.pub, .int .u32 (e.seq : Nat), .int .i64 e.x, .int .i64 e.y, .slice a e.attrs.length c]
theorem few_nat {n : Int} (h : num31 n = true) : ∃ k : Nat, n = (k : Int) ∧ k ≤ 2147483647 := by
  simp only [num31, Bool.and_eq_true, decide_eq_true_eq] at h
  exact ⟨n.toNat, by omega, by omega⟩
theorem attC_of {v : Att} {sn ss : ByteArray} (hn : sn.data.toList = v.name) (hs : ss.data.toList = v.str) : attC v = [.string sn, .bool v.text, .int .i64 v.num, .string ss] := by
  unfold attC bs
  rw [← hn, ← hs]
theorem all_take {α : Type} {f : α → Bool} {l : List α} (h : l.all f = true) {k : Nat} (hk : k < l.length) : f l[k] = true := List.all_eq_true.1 h _ (List.getElem_mem hk)
end Go.Proofs.Ytndgbdbjmogioaa.Wi
