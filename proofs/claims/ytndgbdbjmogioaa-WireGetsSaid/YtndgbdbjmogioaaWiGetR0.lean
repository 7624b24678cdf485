/-
  Contract of the document's Get for layer 10. Memory that was there is left as it was.
-/
import Derived.Test.YtndgbdbjmogioaaWiRfE
import Derived.Test.YtndgbdbjmogioaaWiGet
import Derived.Test.YtndgbdbjmogioaaWiMayR
namespace Go.Proofs.Ytndgbdbjmogioaa.Wi
open Go.RowKit Go.Proofs.Ytndgbdbjmogioaa.Fl
set_option linter.unusedVariables false
set_option linter.unusedSimpArgs false

/-- What the document's Get tells. -/
def GetRE (l : List UInt8) (w w' : World) (e : Ending) : Prop :=
  ∃ a c, e = .returned (.tuple #[msgV (readM l).2 a c, .int .i64 ((readM l).1 : Nat)]) ∧ AttsAt w' (Old w'.heap.size) a (readM l).2.ev.attrs ∧ Below w.heap.size w w'
theorem rf_fail {W : World} {p z n : Nat} {L r : List UInt8} {s : St} (h : RfW W p z L s) (hn : n ≠ 0) : RfW (W.setCell ⟨p, 2, none⟩ (.int .i64 (n : Nat))) p z L (n, r) := by
  obtain ⟨a, c, k, h1, h2, h3, h4, h5, h6⟩ := h
  exact rf_bad h1 h2 h3 h4 h5 hn
theorem gr_p {w V : World} {p : Nat} (h : w.grownBy V (some p)) (j : Nat) (v : Value) : w.grownBy (V.setCell ⟨p, j, none⟩ v) (some p) := gr_set h j v
theorem below_gr {w V : World} {p : Nat} (h : w.grownBy V (some p)) (hp : w.heap.size ≤ p) : Below w.heap.size w V := ⟨h.os, h.tape, h.output, h.size, fun k hk => h.block k hk (fun e => by cases e; omega)⟩
set_option maxHeartbeats 16000000
set_option maxRecDepth 100000
end Go.Proofs.Ytndgbdbjmogioaa.Wi
