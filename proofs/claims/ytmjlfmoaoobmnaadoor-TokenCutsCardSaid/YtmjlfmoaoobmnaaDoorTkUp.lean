/-
  The head of layer 6's statements ('up', the document's example) returns true. Memory that was there is left as it was.
-/
import Derived.Test.YtmjlfmoaoobmnaaDoorTkCut
import Derived.Test.YtmjlfmoaoobmnaaDoorTkTks
namespace Go.Proofs.YtmjlfmoaoobmnaaDoor.Tk
open Go.RowKit
set_option linter.unusedVariables false
set_option linter.unusedSimpArgs false

theorem eql_nil_nil (w : World) : (binOp .eql 25 .nilIface .nilIface).run Tryd.prog w = .ok (.bool true) w := by kernel_rfl
theorem eql_lex_lex (w : World) : (binOp .eql 25 (.iface 37 (.int .i64 2)) (.iface 37 (.int .i64 2))).run Tryd.prog w = .ok (.bool true) w := by kernel_rfl
theorem cut_first : cutAt 0 [97, 62, 61, 45, 53] = some [⟨1, 0, 0, [97]⟩, ⟨5, 1, 0, [62, 61]⟩, ⟨3, 3, -5, []⟩] := by kernel_rfl
theorem cut_dollar : cutAt 0 [36] = none := by kernel_rfl

set_option maxHeartbeats 2000000 in
theorem up_any (w : World) (hE : LaidE w) : Calls Tryd.prog 5 #[] w fun e w' => e = .returned (.bool true) ∧ Below w.heap.size w w' := by
  have q1 := eql_nil_nil
  have q2 := eql_lex_lex
  have HE := Lib.hid hE
  have C1 := Lib.hid (cut_any ⟨#[97, 62, 61, 45, 53]⟩ (by decide) w hE)
  have C2 := Lib.hid (fun W (hW : LaidE W) => cut_any ⟨#[36]⟩ (by decide) W hW)
  rw [show (⟨#[97, 62, 61, 45, 53]⟩ : ByteArray).data.toList = [97, 62, 61, 45, 53] from rfl, cut_first] at C1
  rw [show (⟨#[36]⟩ : ByteArray).data.toList = [36] from rfl, cut_dollar] at C2
  clear hE
  go_enter Tryd.func5, Tryd.ntmps5
  go_wp2_with fail
  refine C1.out.mono ?_
  rintro e w1 ⟨⟨u, rfl, hown⟩, hb1⟩
  obtain ⟨A, cap, rfl, hT⟩ := own_tks hown
  have E1 := Lib.hid (HE.out.later hb1)
  have B1 := Lib.hid hb1
  have T1 := Lib.hid hT
  clear hown hb1 hT
  go_wp2_with fail
  refine (C2.out _ E1.out).mono ?_
  rintro e w2 ⟨he, hb2⟩
  have he2 : e = .returned (.tuple #[.slice none 0 0, .iface 37 (.int .i64 2)]) := he
  subst he2
  clear he
  have B2 := Lib.hid (B1.out.trans (hb2.mono B1.out.size))
  obtain ⟨g, hg, _, hc⟩ := (T1.out.later hb2).2 (by decide)
  obtain ⟨_, _, _, c1⟩ := hc 1 (by decide)
  obtain ⟨_, _, c2, _⟩ := hc 2 (by decide)
  subst hg
  simp only [Nat.one_mul, Nat.reduceMul, Nat.reduceAdd] at c1 c2
  have d1 : w2.cell? ⟨g, 7, none⟩ = some (.string ⟨#[62, 61]⟩) := c1
  have d2 : w2.cell? ⟨g, 10, none⟩ = some (.int .i64 (-5)) := c2
  clear hb2 hc c1 c2 T1
  go_wp2_with fail
  go_ret
  exact ⟨rfl, B2.out⟩
end Go.Proofs.YtmjlfmoaoobmnaaDoor.Tk
