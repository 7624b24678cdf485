/-
  The body of LinkOnce's first loop, taken out of the program's own text.
-/
import Derived.Test.YtnnoampmcghnaaaLkOnP
import Derived.Test.YtnnoampmcghnaaaLkPyBody
import Derived.Deep.Cut
import Derived.Deep.CutRange
import Derived.StillTailTactics
import Derived.BigQuiet
namespace Go.Proofs.Ytnnoampmcghnaaa.Lk
open Go.RowKit
noncomputable def bodyOn : Code := ((Try.f4.body.bind firstLoop).getD .skip)
end Go.Proofs.Ytnnoampmcghnaaa.Lk
