/-
  Bytes that are read, in memory; a reader of package wire. Contracts of first and fail of package wire. All else is left as it was.
-/
import Derived.Test.YtnnoampmcghnaaaWiMem
import Derived.Test.YtnnoampmcghnaaaWiSt
import Derived.Test.YtnnoampmcghnaaaCodeN
import Derived.Lib.VarintBits
import Derived.Laws.Slices
import Derived.Laws.IdiomStrings
import Derived.Laws.BytesString
namespace Go.Proofs.Ytnnoampmcghnaaa.Wi
open Go.RowKit Go.Proofs.Ytnnoampmcghnaaa.Fl
set_option linter.unusedVariables false
set_option linter.unusedSimpArgs false

/-- A slice that begins at a holds l; its block is one of S. -/
def BytesAt (W : World) (S : Nat → Prop) (a : Option Addr) (l : List UInt8) : Prop :=
  l.length ≤ maxLen ∧ (0 < l.length → ∃ g o, a = some ⟨g, o, none⟩ ∧ S g ∧ ∀ (k : Nat) (h : k < l.length), W.cell? ⟨g, o + k, none⟩ = some (.int .u8 (l[k].toNat : Int)))
theorem BytesAt.far {W V : World} {S T : Nat → Prop} {a : Option Addr} {l : List UInt8} (h : BytesAt W S a l) (hS : ∀ g, S g → T g ∧ V.heap[g]? = W.heap[g]?) : BytesAt V T a l := by
  refine ⟨h.1, fun h0 => ?_⟩
  obtain ⟨g, o, e, hg, hc⟩ := h.2 h0
  have hq : ∀ x, V.cell? ⟨g, x, none⟩ = W.cell? ⟨g, x, none⟩ := fun x => World.cell?_of_block (w := W) (w' := V) (a := ⟨g, x, none⟩) (hS g hg).2
  exact ⟨g, o, e, (hS g hg).1, fun k hk => by rw [hq]; exact hc k hk⟩
theorem BytesAt.later {W V : World} {z : Nat} {a : Option Addr} {l : List UInt8} (h : BytesAt W (Old z) a l) (hB : Below z W V) : BytesAt V (Old z) a l := h.far fun g hg => ⟨hg, hB.block g hg⟩
theorem BytesAt.nil (W : World) (S : Nat → Prop) (a : Option Addr) : BytesAt W S a [] := ⟨by simp [maxLen], fun h => by simp at h⟩
/-- Bytes of one's own are read. -/
theorem OB.bytes {W : World} {z : Nat} {a : Option Addr} {n c : Nat} {l : List UInt8} (h : OB W z (.slice a n c) l) : n = l.length ∧ l.length ≤ c ∧ BytesAt W (fun g => z ≤ g ∧ g < W.heap.size) a l := by
  have hm : l.length ≤ maxLen := by
    rcases h.2 with ⟨_, h0⟩ | ⟨g, cap, cur, e, hb, hh, hn, hm, _⟩
    · omega
    · exact Nat.le_trans hn hm
  obtain ⟨a', c', e, hc, hg, hcl⟩ := h.shape
  cases e
  refine ⟨rfl, hc, hm, fun h0 => ?_⟩
  obtain ⟨g, rfl, h1, h2⟩ := hg h0
  exact ⟨g, 0, rfl, ⟨h1, h2⟩, fun k hk => by rw [Nat.zero_add]; exact hcl g rfl k hk⟩
/-- The rest of a slice. -/
def rest (a : Option Addr) (c k : Nat) : Option Addr := if c = k then a else a.map (·.add (k * 1))
theorem BytesAt.drop {W : World} {S : Nat → Prop} {a : Option Addr} {l : List UInt8} (h : BytesAt W S a l) {c k : Nat} (hk : k ≤ l.length) (hc : l.length ≤ c) : BytesAt W S (rest a c k) (l.drop k) := by
  refine ⟨by rw [List.length_drop]; have := h.1; omega, fun h0 => ?_⟩
  rw [List.length_drop] at h0
  obtain ⟨g, o, e, hg, hcl⟩ := h.2 (by omega)
  subst e
  refine ⟨g, o + k, ?_, hg, fun j hj => ?_⟩
  · unfold rest
    rw [if_neg (by omega)]
    simp only [Option.map_some, Addr.add, Nat.mul_one]
    split
    · next h1 => rw [h1]; rfl
    · rfl
  · rw [List.length_drop] at hj
    have := hcl (k + j) (by omega)
    rw [Nat.add_assoc, this, List.getElem_drop]
theorem sizeB (w : World) : (Go.sizeOf 5).run Try.prog w = .ok 1 w := by
  obtain ⟨i0, hi, hz0, hz1, hz2⟩ := info_parts infoB
  simp [sizeOf, typeInfo, hi, hz1]
theorem elemB : Try.prog.elem 38 = 5 := by
  have := Try.underlying38
  simp [Program.elem, this]
theorem run_rest (a : Option Addr) (n c k : Nat) (hk : k ≤ n) (w : World) : (Instr.slice 38 (.slice a n c) (some (.int .i64 (k : Int))) none none).run Try.prog w = .ok (.slice (rest a c k) (n - k) (c - k)) w := by
  have hu := Try.underlying38
  have hu2 : Try.prog.underlying 38 = some (.slice (Try.prog.elem 38)) := by rw [elemB]; exact hu
  rw [run_slice_l (P := Try.prog) w 38 a n c hu2 .i64 (k : Int) (by omega) (by omega), elemB, sizeB]
  simp [Result.andThen, sliced, rest]
def front (a : Option Addr) (c : Nat) : Option Addr := if c = 0 then a else a.map (·.add (0 * 1))
theorem run_front (a : Option Addr) (n c k : Nat) (hk : k ≤ c) (w : World) : (Instr.slice 38 (.slice a n c) none (some (.int .i64 (k : Int))) none).run Try.prog w = .ok (.slice (front a c) k c) w := by
  have hu := Try.underlying38
  have hu2 : Try.prog.underlying 38 = some (.slice (Try.prog.elem 38)) := by rw [elemB]; exact hu
  rw [run_slice_h (P := Try.prog) w 38 a n c hu2 .i64 (k : Int) (by omega) (by omega), elemB, sizeB]
  simp [Result.andThen, sliced, front]
theorem BytesAt.take {W : World} {S : Nat → Prop} {a : Option Addr} {l : List UInt8} (h : BytesAt W S a l) {c k : Nat} (hk : k ≤ l.length) : BytesAt W S (front a c) (l.take k) := by
  refine ⟨by rw [List.length_take]; have := h.1; omega, fun h0 => ?_⟩
  rw [List.length_take] at h0
  obtain ⟨g, o, e, hg, hcl⟩ := h.2 (by omega)
  subst e
  refine ⟨g, o, ?_, hg, fun j hj => ?_⟩
  · unfold front
    split
    · rfl
    · simp [Addr.add]
  · rw [List.length_take] at hj
    rw [hcl j (by omega), List.getElem_take]
/-- A slice of bytes as a text. -/
theorem run_text (a : Option Addr) (c : Nat) (l : List UInt8) (w : World) {S : Nat → Prop} (h : BytesAt w S a l) : (convert 38 9 (.slice a l.length c)).run Try.prog w = .ok (.string ⟨l.toArray⟩) w := by
  rcases Nat.eq_zero_or_pos l.length with h0 | h0
  · obtain rfl := List.eq_nil_of_length_eq_zero h0
    rw [List.length_nil, run_convert_bytes_string w 38 9 5 a 0 c Try.underlying38 Try.underlying5 Try.underlying9]
    cases a with
    | none => simp [Conv.bytesToString]; rfl
    | some a => simp [Conv.bytesToString, loadCells, loadCellsFrom]; rfl
  · obtain ⟨g, o, e, hg, hcl⟩ := h.2 h0
    subst e
    exact run_convert_bytes_back w 38 9 5 ⟨g, o, none⟩ c l Try.underlying38 Try.underlying5 Try.underlying9 (fun j hj => by
      rw [show ((⟨g, o, none⟩ : Addr).add j) = ⟨g, o + j, none⟩ by unfold Addr.add; split <;> simp_all]
      exact hcl j hj)
/-- An error by its number. -/
def errW (e : Nat) : Value := if e = 0 then .nilIface else .iface 31 (.int .i64 (e : Nat))
theorem rd_cells {W : World} {p : Nat} {x y : Value} {t : TypeId} (h : W.heap[p]? = some (.cells #[x, y] t (0, 0))) : W.cell? ⟨p, 0, none⟩ = some x ∧ W.cell? ⟨p, 1, none⟩ = some y ∧ W.frozen? ⟨p, 0, none⟩ = false ∧ W.frozen? ⟨p, 1, none⟩ = false := by
  refine ⟨?_, ?_, ?_, ?_⟩ <;> simp [World.cell?, World.frozen?, h]
theorem neq_nil (w : World) : (binOp .neq 26 .nilIface .nilIface).run Try.prog w = .ok (.bool false) w := by kernel_rfl
theorem neq_err (n : Int) (w : World) : (binOp .neq 26 (.iface 31 (.int .i64 n)) .nilIface).run Try.prog w = .ok (.bool true) w := by kernel_rfl
theorem gr_refl (w : World) (r : Option Nat) : w.grownBy w r := ⟨rfl, rfl, rfl, Nat.le_refl _, fun _ _ _ => rfl⟩
theorem gr_set {w W : World} {p : Nat} (h : w.grownBy W (some p)) (j : Nat) (v : Value) : w.grownBy (W.setCell ⟨p, j, none⟩ v) (some p) :=
  ⟨h.os, h.tape, h.output, by have := h.size; simpa [World.setCell] using this, fun k hk hne => (Below.heap_setCell _ _ _ _ (by simpa using hne)).trans (h.block k hk hne)⟩
end Go.Proofs.Ytnnoampmcghnaaa.Wi
