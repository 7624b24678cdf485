/-
  No cell of these rows narrows 'for every input' (looked for: loops, veiled, ifaces, maps, wideKeys, modest, calm, conditions, laid).
  DERIVED. THE GIVEN ROWS OF THIS SEAT. 3 by the template 'for every input the law returns true; each argument reads behind the call as it read before'; 0 by the template 'total and deterministic' (their statements: YteldmacgbdlmiaaTotals.lean).
  GIVEN WITH THE SEED: the statements are not yours to turn. If you find one false, say at which input.
  Laid BY PROGRAM, IN A SANDBOX (cutbox-rows.mjs): the forced cells as the released guide's own fill.sh prints them over the translation b2f13cc7bdf6d2a1… (all of the seat's roots in one cut). By AI agents, Wed Nov 11 2026. No macro, syntax, notation, axiom, sorry.
-/
import Derived.Test.YteldmacgbdlmiaaChecked
import GoSem.Claim
import GoSem.ClaimJoined
import GoSem.ClaimMapViews
import Derived.JoinedTies
import Derived.KernelRfl
namespace Go.Proofs.Yteldmacgbdlmiaa
/- THE CELL 'sum', in the pinned program and in every row, IS THE sha256 OF THE DUMP (.gsa) THAT YteldmacgbdlmiaaProg.lean LOADS. Nothing in Lean hashes anything: it is a label: what it is worth is what the hold of that sum in a sandbox is worth. -/
noncomputable def Try.pinned : Pinned := { name := "yteldmacgbdlmiaa", sum := "b2f13cc7bdf6d2a18a2d3e5e5fd087e815dde6fd85d06489bb7f0904eb54e504", checked := Try.checked }
namespace Rows
def none {H : Type} : Left H := { results := [], args := [] }

/-- 'ploverlaw04.MortonCells': WHATEVER THE INPUT: true; the input reads as it did. -/
def mortonCellsSpec : ChangeSpec := { name := "mortonCells", fn := fun _ => fun
  | [d1, d2, d3, d4] => { results := [.lit (.bool true)], args := [d1, d2, d3, d4] }
  | _ => none }
def mortonCellsRow : OpenClaim := { program := "yteldmacgbdlmiaa", sum := "b2f13cc7bdf6d2a18a2d3e5e5fd087e815dde6fd85d06489bb7f0904eb54e504", func := "plover/ploverlaw04.MortonCells", spec := "mortonCells", apart := false }
def MortonCellsSaid : Prop := mortonCellsRow.holds Try.pinned (OpenSpec.ofChange mortonCellsSpec)

/-- ITS FALSE NEIGHBOUR: 'it returns false'. Refute it at one input. -/
def mortonCellsWrong : ChangeSpec := { name := "mortonCells", fn := fun _ => fun
  | [d1, d2, d3, d4] => { results := [.lit (.bool false)], args := [d1, d2, d3, d4] }
  | _ => none }
def MortonCellsWrongFalsely : Prop := mortonCellsRow.holds Try.pinned (OpenSpec.ofChange mortonCellsWrong)

/-- 'ploverlaw04.MortonCodes': WHATEVER THE INPUT: true; the input reads as it did. -/
def mortonCodesSpec : ChangeSpec := { name := "mortonCodes", fn := fun _ => fun
  | [d1, d2, d3] => { results := [.lit (.bool true)], args := [d1, d2, d3] }
  | _ => none }
def mortonCodesRow : OpenClaim := { program := "yteldmacgbdlmiaa", sum := "b2f13cc7bdf6d2a18a2d3e5e5fd087e815dde6fd85d06489bb7f0904eb54e504", func := "plover/ploverlaw04.MortonCodes", spec := "mortonCodes", recurses := true, apart := false }
def MortonCodesSaid : Prop := mortonCodesRow.holds Try.pinned (OpenSpec.ofChange mortonCodesSpec)

/-- ITS FALSE NEIGHBOUR: 'it returns false'. Refute it at one input. -/
def mortonCodesWrong : ChangeSpec := { name := "mortonCodes", fn := fun _ => fun
  | [d1, d2, d3] => { results := [.lit (.bool false)], args := [d1, d2, d3] }
  | _ => none }
def MortonCodesWrongFalsely : Prop := mortonCodesRow.holds Try.pinned (OpenSpec.ofChange mortonCodesWrong)

/-- 'ploverlaw04.MortonBack': WHATEVER THE INPUT: true; the input reads as it did. -/
def mortonBackSpec : ChangeSpec := { name := "mortonBack", fn := fun _ => fun
  | [d1, d2, d3, d4, d5, d6, d7] => { results := [.lit (.bool true)], args := [d1, d2, d3, d4, d5, d6, d7] }
  | _ => none }
def mortonBackRow : OpenClaim := { program := "yteldmacgbdlmiaa", sum := "b2f13cc7bdf6d2a18a2d3e5e5fd087e815dde6fd85d06489bb7f0904eb54e504", func := "plover/ploverlaw04.MortonBack", spec := "mortonBack", apart := false }
def MortonBackSaid : Prop := mortonBackRow.holds Try.pinned (OpenSpec.ofChange mortonBackSpec)

/-- ITS FALSE NEIGHBOUR: 'it returns false'. Refute it at one input. -/
def mortonBackWrong : ChangeSpec := { name := "mortonBack", fn := fun _ => fun
  | [d1, d2, d3, d4, d5, d6, d7] => { results := [.lit (.bool false)], args := [d1, d2, d3, d4, d5, d6, d7] }
  | _ => none }
def MortonBackWrongFalsely : Prop := mortonBackRow.holds Try.pinned (OpenSpec.ofChange mortonBackWrong)

/- THE SECOND FORM. 'bulk': how many values and letters a reading holds, each counted each time it is reached (what is shared counts as often as it is met; a slice's spare places count too). A statement '..UptoSaid' is the law's where the arguments, and the package variables that the reading takes, are together of bulk at most 1048576: NARROWER than '..Said'. Prove '..Said' where nothing that the law and all that it calls make is longer than what came in: it says more and counts as full. Else prove '..UptoSaid'. A law counts once. -/
mutual
def uptoBulk {H : Type} : DataW H → Nat
  | .lit (.string bytes) => bytes.length + 1
  | .lit _ => 1
  | .nil => 1
  | .ptr d => uptoBulk d + 1
  | .slice elems spare => uptoBulkAll elems + uptoBulkAll spare + 1
  | .agg parts => uptoBulkAll parts + 1
  | .iface _ d => uptoBulk d + 1
  | .map entries => uptoBulkEntries entries + 1
  | .held _ => 1
def uptoBulkAll {H : Type} : List (DataW H) → Nat
  | [] => 0
  | d :: r => uptoBulk d + uptoBulkAll r
def uptoBulkEntries {H : Type} : List (Lit × DataW H) → Nat
  | [] => 0
  | x :: r => uptoBulkEntry x + uptoBulkEntries r
def uptoBulkEntry {H : Type} : Lit × DataW H → Nat
  | (.string bytes, d) => bytes.length + uptoBulk d + 1
  | (_, d) => uptoBulk d + 1
 end
def uptoSmall : (H : Type) → List (DataW H) → Bool := fun _ ds => decide (uptoBulkAll ds ≤ 1048576)
def OpenSpec.upto (s : _root_.Go.ChangeSpec) : _root_.Go.OpenSpec := { _root_.Go.OpenSpec.ofChange s with cond := some uptoSmall }

/-- 'ploverlaw04.MortonCells', WHERE WHAT IT READS IS OF BULK AT MOST 1048576: true; the input reads as it did. -/
def mortonCellsUptoRow : OpenClaim := { program := "yteldmacgbdlmiaa", sum := "b2f13cc7bdf6d2a18a2d3e5e5fd087e815dde6fd85d06489bb7f0904eb54e504", func := "plover/ploverlaw04.MortonCells", spec := "mortonCells", apart := false, narrowed := true }
def MortonCellsUptoSaid : Prop := mortonCellsUptoRow.holds Try.pinned (OpenSpec.upto mortonCellsSpec)

/-- 'ploverlaw04.MortonCodes', WHERE WHAT IT READS IS OF BULK AT MOST 1048576: true; the input reads as it did. -/
def mortonCodesUptoRow : OpenClaim := { program := "yteldmacgbdlmiaa", sum := "b2f13cc7bdf6d2a18a2d3e5e5fd087e815dde6fd85d06489bb7f0904eb54e504", func := "plover/ploverlaw04.MortonCodes", spec := "mortonCodes", recurses := true, apart := false, narrowed := true }
def MortonCodesUptoSaid : Prop := mortonCodesUptoRow.holds Try.pinned (OpenSpec.upto mortonCodesSpec)

/-- 'ploverlaw04.MortonBack', WHERE WHAT IT READS IS OF BULK AT MOST 1048576: true; the input reads as it did. -/
def mortonBackUptoRow : OpenClaim := { program := "yteldmacgbdlmiaa", sum := "b2f13cc7bdf6d2a18a2d3e5e5fd087e815dde6fd85d06489bb7f0904eb54e504", func := "plover/ploverlaw04.MortonBack", spec := "mortonBack", apart := false, narrowed := true }
def MortonBackUptoSaid : Prop := mortonBackUptoRow.holds Try.pinned (OpenSpec.upto mortonBackSpec)

end Rows
end Go.Proofs.Yteldmacgbdlmiaa
