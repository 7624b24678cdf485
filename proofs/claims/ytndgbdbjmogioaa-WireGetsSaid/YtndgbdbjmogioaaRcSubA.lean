/-
  Contracts of Join of layer 2 (rect), and of the document's answers In, less and more. Memory that was there is left as it was.
-/
import Derived.Test.YtndgbdbjmogioaaPtMay
import Derived.Test.YtndgbdbjmogioaaRcPlain
import Derived.Outline
namespace Go.Proofs.Ytndgbdbjmogioaa.Rc
open Go.RowKit Go.Proofs.Ytndgbdbjmogioaa.Pt

theorem run_mn (P : Program) (ts : Array TypeId) (t : TypeId) (x y : Int) (W : World) : (Builtin.min_ ts t #[.int .i64 x, .int .i64 y]).run P W = .ok (.int .i64 (mn x y)) W := run_min_int2 W ts t .i64 .i64 x y
theorem run_mx (P : Program) (ts : Array TypeId) (t : TypeId) (x y : Int) (W : World) : (Builtin.max_ ts t #[.int .i64 x, .int .i64 y]).run P W = .ok (.int .i64 (mx x y)) W := run_max_int2 W ts t .i64 .i64 x y

end Go.Proofs.Ytndgbdbjmogioaa.Rc
