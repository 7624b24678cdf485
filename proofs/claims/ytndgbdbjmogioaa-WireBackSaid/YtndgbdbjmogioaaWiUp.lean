/-
  The example of layer 10 holds. Memory that was there is left as it was.
-/
import Derived.Test.YtndgbdbjmogioaaWiPut
import Derived.Test.YtndgbdbjmogioaaWiGet
namespace Go.Proofs.Ytndgbdbjmogioaa.Wi
open Go.RowKit Go.Proofs.Ytndgbdbjmogioaa.Fl
set_option linter.unusedVariables false
set_option linter.unusedSimpArgs false

def m1 : Msg := ⟨2, 5, 1, 0, 0, 0, 0, 0, [], ⟨0, 0, 0, 0, []⟩⟩
theorem m1_put : putM m1 = [2, 5, 1] := by
  unfold m1
  rw [put_2, numL_small (by decide), numL_small (by decide), numL_small (by decide)]
  rfl
theorem m1_may : msgB m1 = true := by decide
theorem m1_rng : evR m1.ev := ⟨Nat.zero_le _, by simp [m1]⟩
theorem m1_read : readM [2, 5, 1] = (0, m1) := by rw [← m1_put]; exact read_put m1_may m1_rng
theorem m0_may : msgB msg0 = false := by decide
theorem str_same (w : World) : (binOp .eql 9 (.string ⟨#[2, 5, 1]⟩) (.string ⟨#[2, 5, 1]⟩)).run Try.prog w = .ok (.bool true) w := by kernel_rfl
set_option maxHeartbeats 8000000
set_option maxRecDepth 100000
theorem up_any (w : World) : Calls Try.prog 6 #[] w fun e w' => e = .returned (.bool true) ∧ Below w.heap.size w w' := by
  have C1 : Calls Try.prog 9 #[.agg #[.int .i64 2, .int .i64 5, .int .i64 1, .int .i64 0, .int .i64 0, .int .i64 0, .int .i64 0, .int .i64 0, .string ⟨#[]⟩, .int .i64 0, .int .u32 0, .int .i64 0, .int .i64 0, .slice none 0 0]] w fun x w' => PutEnd m1 w w' x := put_any m1 m1_rng ⟨#[]⟩ rfl none 0 w (atts_none2 _ _ _)
  have C2 : ∀ W, Calls Try.prog 9 #[.agg #[.int .i64 0, .int .i64 0, .int .i64 0, .int .i64 0, .int .i64 0, .int .i64 0, .int .i64 0, .int .i64 0, .string ⟨#[]⟩, .int .i64 0, .int .u32 0, .int .i64 0, .int .i64 0, .slice none 0 0]] W fun x w' => PutEnd msg0 W w' x := fun W => put_any msg0 ⟨Nat.zero_le _, by simp [msg0, ev0]⟩ ⟨#[]⟩ rfl none 0 W (atts_none2 _ _ _)
  have HC1 := Lib.hid C1
  have HC2 := Lib.hid C2
  clear C1 C2
  go_enter Try.func6, Try.ntmps6
  go_wp2_with fail
  refine Calls.mono HC1.out ?_
  rintro x w1 ⟨hb1, ⟨hf, _⟩ | ⟨_, v1, rfl, ho1⟩⟩
  · rw [m1_may] at hf
    cases hf
  have B1 := Lib.hid hb1
  have ho1 := ho1
  rw [m1_put] at ho1
  obtain ⟨a1, n1, c1, e1⟩ := own_slice ho1
  subst e1
  obtain ⟨hn1, hc1, hby1⟩ := ho1.bytes
  subst hn1
  have Y1 := Lib.hid hby1
  clear hb1 ho1 hby1 hc1
  go_wp2_with fail
  refine Calls.mono (HC2.out _) ?_
  rintro x w2 ⟨hb2, ⟨_, rfl⟩ | ⟨hf, _⟩⟩
  case inr => (rw [m0_may] at hf; cases hf)
  have B2 := Lib.hid (B1.out.trans (hb2.mono B1.out.size))
  have Y2 := Lib.hid (show BytesAt w2 (Old w2.heap.size) a1 [2, 5, 1] from Y1.out.far fun g hg => ⟨Nat.lt_of_lt_of_le hg.2 hb2.size, hb2.block g hg.2⟩)
  clear hb2
  obtain ⟨w3, hw3⟩ : ∃ W0 : World, W0 = w2.alloc (.cells #[.int .u8 2, .int .u8 5, .int .u8 1] 5) := ⟨_, rfl⟩
  have B3 := Lib.hid (show Below w2.heap.size w2 w3 by rw [hw3]; exact below_alloc _ _)
  have Y3 := Lib.hid (show BytesAt w3 (Old w3.heap.size) (some ⟨w2.heap.size, 0, none⟩) [2, 5, 1] by
    refine ⟨by simp [maxLen], fun _ => ⟨w2.heap.size, 0, rfl, by rw [hw3]; simp [Old], fun k hk => ?_⟩⟩
    simp only [List.length_cons, List.length_nil] at hk
    rw [hw3]
    match k, hk with
    | 0, _ => simp [go_sem]
    | 1, _ => simp [go_sem]
    | 2, _ => simp [go_sem])
  have C3 : Calls Try.prog 14 #[.slice (some ⟨w2.heap.size, 0, none⟩) 3 3] w3 fun e w' => GetEnd [2, 5, 1] w3 w' e := get_any (some ⟨w2.heap.size, 0, none⟩) 3 [2, 5, 1] w3 Y3.out (by simp)
  have HC3 := Lib.hid C3
  have HW3 := Lib.hid hw3
  clear C3 hw3
  go_wp2_with fail
  rw [← HW3.out]
  refine Calls.mono HC3.out ?_
  rintro x w4 ⟨a4, c4, rfl, -, hb4⟩
  rw [m1_read]
  have B4 := Lib.hid (B2.out.trans ((B3.out.trans (hb4.mono B3.out.size)).mono B2.out.size))
  have Y4 := Lib.hid (show BytesAt w4 (Old w4.heap.size) a1 [2, 5, 1] from Y2.out.far fun g hg => ⟨Nat.lt_of_lt_of_le hg (Nat.le_trans B3.out.size hb4.size), (hb4.block g (Nat.lt_of_lt_of_le hg B3.out.size)).trans (B3.out.block g hg)⟩)
  have hst := fun W (h : BytesAt W (Old w4.heap.size) a1 [2, 5, 1]) => run_text a1 c1 [2, 5, 1] W h
  obtain ⟨w5, hw5⟩ : ∃ W0 : World, W0 = w4.alloc (.cells #[.int .i64 2, .int .i64 5, .int .i64 1, .int .i64 0, .int .i64 0, .int .i64 0, .int .i64 0, .int .i64 0, .string ⟨#[]⟩, .int .i64 0, .int .u32 0, .int .i64 0, .int .i64 0, .slice a4 0 c4] 31) := ⟨_, rfl⟩
  have B5 := Lib.hid (show Below w.heap.size w w5 by rw [hw5]; exact B4.out.alloc B4.out.size _)
  have hs5 : (convert 34 9 (.slice a1 3 c1)).run Try.prog w5 = .ok (.string ⟨#[2, 5, 1]⟩) w5 := hst w5 (Y4.out.far fun g hg => ⟨hg, by rw [hw5]; exact Below.heap_alloc _ _ _ hg⟩)
  have HS5 := Lib.hid hs5
  have HW5 := Lib.hid hw5
  rw [show msgV (0, m1).2 a4 c4 = .agg #[.int .i64 2, .int .i64 5, .int .i64 1, .int .i64 0, .int .i64 0, .int .i64 0, .int .i64 0, .int .i64 0, .string ⟨#[]⟩, .int .i64 0, .int .u32 0, .int .i64 0, .int .i64 0, .slice a4 0 c4] from rfl, show errW (0, m1).1 = .nilIface from rfl]
  have q1 := Cn.nil_nil
  have q2 := Cn.eql_codes 1 1
  have q3 := str_same
  clear hst hs5 hb4 hw5
  have hs5 := HS5.out
  rw [HW5.out] at hs5
  go_wp2_with fail
  go_ret
  exact ⟨rfl, by rw [← HW5.out]; exact B5.out⟩
end Go.Proofs.Ytndgbdbjmogioaa.Wi
