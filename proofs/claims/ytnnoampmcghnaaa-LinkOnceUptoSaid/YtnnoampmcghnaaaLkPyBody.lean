/-
  The body of LinkPlays' loop, taken out of the program's own text.
-/
import Derived.Test.YtnnoampmcghnaaaLkPyP
import Derived.StillTailTactics
namespace Go.Proofs.Ytnnoampmcghnaaa.Lk
open Go.RowKit
/-- The first loop's body. -/
def firstLoop : Code → Option Code
  | .loop c => some c
  | .seq a b => match firstLoop a with
    | some c => some c
    | none => firstLoop b
  | .block _ c => firstLoop c
  | .scope c => firstLoop c
  | .cond _ a b => match firstLoop a with
    | some c => some c
    | none => firstLoop b
  | _ => none
noncomputable def bodyPy : Code := ((Try.f3.body.bind firstLoop).getD .skip)
end Go.Proofs.Ytnnoampmcghnaaa.Lk
