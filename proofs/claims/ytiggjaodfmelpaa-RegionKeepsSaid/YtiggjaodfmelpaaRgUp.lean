/-
  The head of layer 16's statements ('up', the document's example) returns true. Memory that was there is left as it was.
-/
import Derived.Test.YtiggjaodfmelpaaRgIn
import Derived.Test.YtiggjaodfmelpaaCodeN
namespace Go.Proofs.Ytiggjaodfmelpaa.Rg
open Go.RowKit Go.Proofs.Ytiggjaodfmelpaa.Pt Go.Proofs.Ytiggjaodfmelpaa.Rc Go.Proofs.Ytiggjaodfmelpaa.Pts Go.Proofs.Ytiggjaodfmelpaa.Pl
set_option linter.unusedVariables false
set_option linter.unusedSimpArgs false

theorem eql_arg (w : World) : (binOp .eql 32 (.iface 37 (.int .i64 1)) (.iface 37 (.int .i64 1))).run Try.prog w = .ok (.bool true) w := by kernel_rfl
set_option maxHeartbeats 2000000 in
theorem up_any (w : World) : Calls Try.prog 6 #[] w fun e w' => e = .returned (.bool true) ∧ Below w.heap.size w w' := by
  have q1 := eql_arg
  have q2 := Cn.nil_nil
  have q3 := eql_rect 0 0 2 2 0 0 2 2
  rw [eq4_self] at q3
  have m1 : rmayB 0 0 2 2 = true := by decide
  have m2 : inB 0 0 2 2 1 1 = true := by decide
  have L0 := (fun h => Kp.ad50 h w.heap.size rfl (.int .i64 0) (.int .i64 0) (.int .i64 2) (.int .i64 2) (.slice none 0 0) 26) ⟨Nat.le_refl _, Below.refl w.heap.size w⟩
  have L := Lib.hid L0
  clear L0
  have z := L.out
  go_enter Try.func6, Try.ntmps6
  go_wp2_with fail
  refine (box_rect 0 0 2 2 none 0 _ (by decide)).mono ?_
  rintro e w1 ⟨rfl, hb1⟩
  have K1 := Lib.hid ((Kp.two hb1 (Kp.two hb1 (Kp.one hb1 (Kp.ends hb1)))) L.out)
  clear hb1 z L
  have M1 := Lib.hid ((Kp.two (Kp.behind _ (.cells #[.int .i64 0, .int .i64 0, .int .i64 2, .int .i64 2] 23)) (Kp.two (Kp.behind _ (.cells #[.int .i64 0, .int .i64 0, .int .i64 2, .int .i64 2] 23)) (Kp.one (Kp.behind _ (.cells #[.int .i64 0, .int .i64 0, .int .i64 2, .int .i64 2] 23)) (fun h => Kp.adq0 h w1.heap.size rfl (.int .i64 0) (.int .i64 0) (.int .i64 2) (.int .i64 2) 23)))) K1.out)
  have y1 := K1.out
  clear K1
  have z1 := M1.out
  go_wp2_with fail
  refine (box_bad 1 0 0 0 [] none 0 _ (fun h => absurd rfl h) (by decide) (by decide)).mono ?_
  rintro e w2 ⟨rfl, hb2⟩
  have K2 := Lib.hid ((Kp.two hb2 (Kp.two hb2 (Kp.two hb2 (Kp.two hb2 (Kp.one hb2 (Kp.ends hb2)))))) M1.out)
  clear hb2 z1 y1 M1
  have M2 := Lib.hid ((Kp.two (Kp.behind _ (.cells #[.int .i64 0, .int .i64 0, .int .i64 0, .int .i64 0] 23)) (Kp.two (Kp.behind _ (.cells #[.int .i64 0, .int .i64 0, .int .i64 0, .int .i64 0] 23)) (Kp.two (Kp.behind _ (.cells #[.int .i64 0, .int .i64 0, .int .i64 0, .int .i64 0] 23)) (Kp.two (Kp.behind _ (.cells #[.int .i64 0, .int .i64 0, .int .i64 0, .int .i64 0] 23)) (Kp.one (Kp.behind _ (.cells #[.int .i64 0, .int .i64 0, .int .i64 0, .int .i64 0] 23)) (fun h => Kp.adq0 h w2.heap.size rfl (.int .i64 0) (.int .i64 0) (.int .i64 0) (.int .i64 0) 23)))))) K2.out)
  have y2 := K2.out
  clear K2
  have z2 := M2.out
  go_wp2_with fail
  refine (may_no 0 0 2 2 none 0 _).mono ?_
  rintro e w3 ⟨rfl, hb3⟩
  have K3 := Lib.hid ((Kp.two hb3 (Kp.two hb3 (Kp.two hb3 (Kp.two hb3 (Kp.two hb3 (Kp.two hb3 (Kp.one hb3 (Kp.ends hb3)))))))) M2.out)
  clear hb3 z2 y2 M2
  have z3 := K3.out
  go_wp2_with fail
  refine (rin_rect 0 0 2 2 none 0 (1, 1) _ (by decide) (by decide)).mono ?_
  rintro e w4 ⟨rfl, hb4⟩
  have K4 := Lib.hid ((Kp.two hb4 (Kp.two hb4 (Kp.two hb4 (Kp.two hb4 (Kp.two hb4 (Kp.two hb4 (Kp.one hb4 (Kp.ends hb4)))))))) K3.out)
  clear hb4 z3 K3
  have z4 := K4.out
  go_wp2_with fail
  go_ret
  exact ⟨rfl, K4.out.2.2.2.2.2.2.2.2.2.2.2.2.2.2⟩
end Go.Proofs.Ytiggjaodfmelpaa.Rg
