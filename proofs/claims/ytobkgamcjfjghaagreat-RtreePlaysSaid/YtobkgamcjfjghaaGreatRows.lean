/-
  No cell of these rows narrows 'for every input' (looked for: loops, veiled, ifaces, maps, wideKeys, modest, calm, conditions, laid).
  DERIVED. THE GIVEN ROWS OF THIS SEAT. 3 by the template 'for every input the law returns true; each argument reads behind the call as it read before'; 0 by the template 'total and deterministic' (their statements: YtobkgamcjfjghaaGreatTotals.lean).
  GIVEN WITH THE SEED: the statements are not yours to turn. If you find one false, say at which input.
  Laid BY PROGRAM, IN A SANDBOX (cutbox-rows.mjs): the forced cells as the released guide's own fill.sh prints them over the translation c2d0bb12432a5271… (all of the seat's roots in one cut). By AI agents, Wed Nov 11 2026. No macro, syntax, notation, axiom, sorry.
-/
import Derived.Test.YtobkgamcjfjghaaGreatChecked
import GoSem.Claim
import GoSem.ClaimJoined
import GoSem.ClaimMapViews
import Derived.JoinedTies
import Derived.KernelRfl
namespace Go.Proofs.YtobkgamcjfjghaaGreat
/- THE CELL 'sum', in the pinned program and in every row, IS THE sha256 OF THE DUMP (.gsa) THAT YtobkgamcjfjghaaGreatProg.lean LOADS. Nothing in Lean hashes anything: it is a label: what it is worth is what the hold of that sum in a sandbox is worth. -/
noncomputable def Tryz.pinned : Pinned := { name := "ytobkgamcjfjghaagreat", sum := "c2d0bb12432a52715f4d510955fcb462811d147b9ed7bd00b87405fe4ca6e832", checked := Tryz.checked }
namespace Rows
def none {H : Type} : Left H := { results := [], args := [] }

/-- 'ploverlaw14.RtreePlays': WHATEVER THE INPUT: true; the input reads as it did. -/
def rtreePlaysSpec : ChangeSpec := { name := "rtreePlays", fn := fun _ => fun
  | [d1, d2, d3, d4] => { results := [.lit (.bool true)], args := [d1, d2, d3, d4] }
  | _ => none }
def rtreePlaysRow : OpenClaim := { program := "ytobkgamcjfjghaagreat", sum := "c2d0bb12432a52715f4d510955fcb462811d147b9ed7bd00b87405fe4ca6e832", func := "plover/ploverlaw14.RtreePlays", spec := "rtreePlays", inPlace := ["math/bits.Add64"], unfollowed := true, recurses := true, apart := false }
def RtreePlaysSaid : Prop := rtreePlaysRow.holds Tryz.pinned (OpenSpec.ofChange rtreePlaysSpec)

/-- ITS FALSE NEIGHBOUR: 'it returns false'. Refute it at one input. -/
def rtreePlaysWrong : ChangeSpec := { name := "rtreePlays", fn := fun _ => fun
  | [d1, d2, d3, d4] => { results := [.lit (.bool false)], args := [d1, d2, d3, d4] }
  | _ => none }
def RtreePlaysWrongFalsely : Prop := rtreePlaysRow.holds Tryz.pinned (OpenSpec.ofChange rtreePlaysWrong)

/-- 'ploverlaw14.RtreeFinds': WHATEVER THE INPUT: true; the input reads as it did. -/
def rtreeFindsSpec : ChangeSpec := { name := "rtreeFinds", fn := fun _ => fun
  | [d1, d2, d3] => { results := [.lit (.bool true)], args := [d1, d2, d3] }
  | _ => none }
def rtreeFindsRow : OpenClaim := { program := "ytobkgamcjfjghaagreat", sum := "c2d0bb12432a52715f4d510955fcb462811d147b9ed7bd00b87405fe4ca6e832", func := "plover/ploverlaw14.RtreeFinds", spec := "rtreeFinds", inPlace := ["math/bits.Add64"], unfollowed := true, recurses := true, apart := false }
def RtreeFindsSaid : Prop := rtreeFindsRow.holds Tryz.pinned (OpenSpec.ofChange rtreeFindsSpec)

/-- ITS FALSE NEIGHBOUR: 'it returns false'. Refute it at one input. -/
def rtreeFindsWrong : ChangeSpec := { name := "rtreeFinds", fn := fun _ => fun
  | [d1, d2, d3] => { results := [.lit (.bool false)], args := [d1, d2, d3] }
  | _ => none }
def RtreeFindsWrongFalsely : Prop := rtreeFindsRow.holds Tryz.pinned (OpenSpec.ofChange rtreeFindsWrong)

/-- 'ploverlaw14.RtreeFull': WHATEVER THE INPUT: true; the input reads as it did. -/
def rtreeFullSpec : ChangeSpec := { name := "rtreeFull", fn := fun _ => fun
  | [d1, d2] => { results := [.lit (.bool true)], args := [d1, d2] }
  | _ => none }
def rtreeFullRow : OpenClaim := { program := "ytobkgamcjfjghaagreat", sum := "c2d0bb12432a52715f4d510955fcb462811d147b9ed7bd00b87405fe4ca6e832", func := "plover/ploverlaw14.RtreeFull", spec := "rtreeFull", inPlace := ["math/bits.Add64"], unfollowed := true, recurses := true, apart := false }
def RtreeFullSaid : Prop := rtreeFullRow.holds Tryz.pinned (OpenSpec.ofChange rtreeFullSpec)

/-- ITS FALSE NEIGHBOUR: 'it returns false'. Refute it at one input. -/
def rtreeFullWrong : ChangeSpec := { name := "rtreeFull", fn := fun _ => fun
  | [d1, d2] => { results := [.lit (.bool false)], args := [d1, d2] }
  | _ => none }
def RtreeFullWrongFalsely : Prop := rtreeFullRow.holds Tryz.pinned (OpenSpec.ofChange rtreeFullWrong)

/- THE SECOND FORM. 'bulk': how many values and letters a reading holds, each counted each time it is reached (what is shared counts as often as it is met; a slice's spare places count too). A statement '..UptoSaid' is the law's where the arguments, and the package variables that the reading takes, are together of bulk at most 1048576: NARROWER than '..Said'. Prove '..Said' where nothing that the law and all that it calls make is longer than what came in: it says more and counts as full. Else prove '..UptoSaid'. A law counts once. -/
mutual
def uptoBulk {H : Type} : DataW H → Nat
  | .lit (.string bytes) => bytes.length + 1
  | .lit _ => 1
  | .nil => 1
  | .ptr d => uptoBulk d + 1
  | .slice elems spare => uptoBulkAll elems + uptoBulkAll spare + 1
  | .agg parts => uptoBulkAll parts + 1
  | .iface _ d => uptoBulk d + 1
  | .map entries => uptoBulkEntries entries + 1
  | .held _ => 1
def uptoBulkAll {H : Type} : List (DataW H) → Nat
  | [] => 0
  | d :: r => uptoBulk d + uptoBulkAll r
def uptoBulkEntries {H : Type} : List (Lit × DataW H) → Nat
  | [] => 0
  | x :: r => uptoBulkEntry x + uptoBulkEntries r
def uptoBulkEntry {H : Type} : Lit × DataW H → Nat
  | (.string bytes, d) => bytes.length + uptoBulk d + 1
  | (_, d) => uptoBulk d + 1
 end
def uptoSmall : (H : Type) → List (DataW H) → Bool := fun _ ds => decide (uptoBulkAll ds ≤ 1048576)
def OpenSpec.upto (s : _root_.Go.ChangeSpec) : _root_.Go.OpenSpec := { _root_.Go.OpenSpec.ofChange s with cond := some uptoSmall }

/-- 'ploverlaw14.RtreePlays', WHERE WHAT IT READS IS OF BULK AT MOST 1048576: true; the input reads as it did. -/
def rtreePlaysUptoRow : OpenClaim := { program := "ytobkgamcjfjghaagreat", sum := "c2d0bb12432a52715f4d510955fcb462811d147b9ed7bd00b87405fe4ca6e832", func := "plover/ploverlaw14.RtreePlays", spec := "rtreePlays", inPlace := ["math/bits.Add64"], unfollowed := true, recurses := true, apart := false, narrowed := true }
def RtreePlaysUptoSaid : Prop := rtreePlaysUptoRow.holds Tryz.pinned (OpenSpec.upto rtreePlaysSpec)

/-- 'ploverlaw14.RtreeFinds', WHERE WHAT IT READS IS OF BULK AT MOST 1048576: true; the input reads as it did. -/
def rtreeFindsUptoRow : OpenClaim := { program := "ytobkgamcjfjghaagreat", sum := "c2d0bb12432a52715f4d510955fcb462811d147b9ed7bd00b87405fe4ca6e832", func := "plover/ploverlaw14.RtreeFinds", spec := "rtreeFinds", inPlace := ["math/bits.Add64"], unfollowed := true, recurses := true, apart := false, narrowed := true }
def RtreeFindsUptoSaid : Prop := rtreeFindsUptoRow.holds Tryz.pinned (OpenSpec.upto rtreeFindsSpec)

/-- 'ploverlaw14.RtreeFull', WHERE WHAT IT READS IS OF BULK AT MOST 1048576: true; the input reads as it did. -/
def rtreeFullUptoRow : OpenClaim := { program := "ytobkgamcjfjghaagreat", sum := "c2d0bb12432a52715f4d510955fcb462811d147b9ed7bd00b87405fe4ca6e832", func := "plover/ploverlaw14.RtreeFull", spec := "rtreeFull", inPlace := ["math/bits.Add64"], unfollowed := true, recurses := true, apart := false, narrowed := true }
def RtreeFullUptoSaid : Prop := rtreeFullUptoRow.holds Tryz.pinned (OpenSpec.upto rtreeFullSpec)

end Rows
end Go.Proofs.YtobkgamcjfjghaaGreat
