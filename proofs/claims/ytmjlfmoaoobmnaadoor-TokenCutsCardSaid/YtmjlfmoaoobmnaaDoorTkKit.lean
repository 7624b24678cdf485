/-
  A block of four cells that a call has made; a text's pieces as lists of bytes. No program here.
-/
import Derived.Test.YtmjlfmoaoobmnaaDoorTkPlain
import Derived.WalkKit
import Derived.WalkSpells
import Derived.Below
import Derived.Lib.Strings
import Derived.Lib.IndexBytes
import Derived.Lib.Hide
namespace Go.Proofs.YtmjlfmoaoobmnaaDoor.Tk
open Go.RowKit
set_option linter.unusedVariables false

/-- Block b holds these four, and may be written. -/
def Blk (W : World) (b : Nat) (x y z u : Value) : Prop :=
  W.cell? ⟨b, 0, none⟩ = some x ∧ W.cell? ⟨b, 1, none⟩ = some y ∧ W.cell? ⟨b, 2, none⟩ = some z ∧ W.cell? ⟨b, 3, none⟩ = some u ∧ (∀ o, W.frozen? ⟨b, o, none⟩ = false) ∧ b < W.heap.size
theorem Blk.new (w : World) (x y z u : Value) (t : TypeId) : Blk (w.alloc (.cells #[x, y, z, u] t)) w.heap.size x y z u := by
  refine ⟨?_, ?_, ?_, ?_, fun o => ?_, ?_⟩ <;> simp [go_sem]
theorem Blk.later {W V : World} {b : Nat} {x y z u : Value} (h : Blk W b x y z u) (hb : Below W.heap.size W V) : Blk V b x y z u := by
  obtain ⟨h0, h1, h2, h3, hf, hl⟩ := h
  exact ⟨cell_later hb h0, cell_later hb h1, cell_later hb h2, cell_later hb h3, fun o => (World.frozen?_of_block (w := W) (a := ⟨b, o, none⟩) (hb.block b hl)).trans (hf o), Nat.lt_of_lt_of_le hl hb.size⟩
theorem set4 {B b : Nat} {w W : World} (h : Below B w W) (hb : B ≤ b) (x y z u : Value) :
    Below B w ((((W.setCell ⟨b, 0, none⟩ x).setCell ⟨b, 1, none⟩ y).setCell ⟨b, 2, none⟩ z).setCell ⟨b, 3, none⟩ u) :=
  (((h.setCell hb _).setCell hb _).setCell hb _).setCell hb _

theorem take_extract (s : ByteArray) (k : Nat) : s.extract 0 k = ⟨(s.data.toList.take k).toArray⟩ := by
  rw [Lib.extract_eq]
  simp
theorem piece (s : ByteArray) (a b : Nat) : s.extract a b = ⟨((s.data.toList.drop a).take (b - a)).toArray⟩ := Lib.extract_eq s a b
theorem bytes_toList (l : List UInt8) : (⟨l.toArray⟩ : ByteArray).data.toList = l := rfl
theorem take_data (s : ByteArray) (k : Nat) : (s.extract 0 k).data.toList = s.data.toList.take k := by
  rw [Lib.extract_data]
  simp
theorem bytes_size (l : List UInt8) : (⟨l.toArray⟩ : ByteArray).size = l.length := by
  show (l.toArray).size = _
  simp
/-- What is told of the token that a list begins with. -/
def lexV (t : TypeId) : Option Lx → Value
  | none => .tuple #[.agg #[.int .i64 0, .int .i64 0, .int .i64 0, .string ⟨#[]⟩], .int .i64 0, .iface t (.int .i64 2)]
  | some x => .tuple #[.agg #[.int .i64 x.kind, .int .i64 0, .int .i64 x.num, .string ⟨x.str.toArray⟩], .int .i64 (x.size : Nat), .nilIface]
end Go.Proofs.YtmjlfmoaoobmnaaDoor.Tk
