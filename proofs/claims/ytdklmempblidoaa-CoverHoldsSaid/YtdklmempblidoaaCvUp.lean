/-
  The head of layer 5's statements ('up', the document's example) returns true. Memory that was there is left as it was.
-/
import Derived.Test.YtdklmempblidoaaCvCells
import Derived.Test.YtdklmempblidoaaCvSame
namespace Go.Proofs.Ytdklmempblidoaa.Cv
open Go.RowKit Go.Proofs.Ytdklmempblidoaa.Pt Go.Proofs.Ytdklmempblidoaa.Rc Go.Proofs.Ytdklmempblidoaa.So Go.Proofs.Ytdklmempblidoaa.Mo
set_option linter.unusedVariables false

theorem eql_arg (w : World) : (binOp .eql 29 (.iface 34 (.int .i64 1)) (.iface 34 (.int .i64 1))).run Try.prog w = .ok (.bool true) w := by kernel_rfl
theorem up_any (w : World) : Calls Try.prog 5 #[] w fun e w' => e = .returned (.bool true) ∧ Below w.heap.size w w' := by
  have q1 := eql_arg
  have q2 := eql_nil_nil
  have C1 := Lib.hid (fun W => cells_yes 30 (-1073741824) (-1073741824) 1073741824 1073741824 0 0 2 2 W (by decide) (by decide) (by decide) (by decide) (by decide) (by decide) (by decide) (by decide) (by decide) (by decide) (by decide))
  have C2 := Lib.hid (fun W => cells_no 30 1 0 0 0 W (by decide))
  have C3 := Lib.hid (fun W => same_yes 30 0 0 0 0 0 0 5 0 W (by decide) (by decide) (by decide) (by decide))
  rw [show eqB (colI 30 0) (colI 30 0) (colI 30 0) (colI 30 0) (colI 30 0) (colI 30 0) (colI 30 5) (colI 30 0) = true by decide] at C3
  go_enter Try.func5, Try.ntmps5
  go_wp2_with fail
  refine (C1.out _).mono ?_
  rintro e w1 ⟨u, ps, ys, rfl, hps, hp, _, hr, hb1⟩
  obtain ⟨b, o, cap, rfl, _⟩ := hr
  have hl : ys.length = 9 := hp.length_eq.trans hps.2.2
  rw [hl]
  clear hl hps hp
  go_wp2_with fail
  refine (C2.out _).mono ?_
  rintro e w2 ⟨rfl, hb2⟩
  go_wp2_with fail
  refine (C3.out _).mono ?_
  rintro e w3 ⟨rfl, hb3⟩
  go_wp2_with fail
  go_ret
  exact ⟨rfl, (hb1.trans (hb2.mono hb1.size)).trans (hb3.mono (Nat.le_trans hb1.size hb2.size))⟩
end Go.Proofs.Ytdklmempblidoaa.Cv
