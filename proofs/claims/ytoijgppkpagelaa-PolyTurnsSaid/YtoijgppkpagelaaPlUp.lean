/-
  The head of layer 3's statements ('up', the document's example) returns true. Memory that was there is left as it was.
-/
import Derived.Test.YtoijgppkpagelaaPlTop
import Derived.Test.YtoijgppkpagelaaPlTwice
namespace Go.Proofs.Ytoijgppkpagelaa.Pl
open Go.RowKit Go.Proofs.Ytoijgppkpagelaa.Pt Go.Proofs.Ytoijgppkpagelaa.Rc Go.Proofs.Ytoijgppkpagelaa.Pts
set_option linter.unusedVariables false

def ex : List Pnt := [(0, 0), (4, 0), (0, 4)]
theorem ex_simple : simpleB ex = true := by kernel_rfl
theorem ex_in : insB ex (1, 1) = true := by kernel_rfl
theorem ex_out : insB ex (3, 3) = false := by kernel_rfl
theorem ex_twice : twiceL ex = 16 := by kernel_rfl
theorem ex_may : ex.all pmay = true := by kernel_rfl
theorem pts_ex (W : World) (t : TypeId) : PtsAt (W.alloc (.cells #[.int .i64 0, .int .i64 0, .int .i64 4, .int .i64 0, .int .i64 0, .int .i64 4] t)) (W.alloc (.cells #[.int .i64 0, .int .i64 0, .int .i64 4, .int .i64 0, .int .i64 0, .int .i64 4] t)).heap.size (some ⟨W.heap.size, 0, none⟩) ex := by
  intro _
  refine ⟨W.heap.size, 0, rfl, by simp, fun k hk => ?_⟩
  have : k < 3 := hk
  rcases (show k = 0 ∨ k = 1 ∨ k = 2 by omega) with rfl | rfl | rfl <;> (constructor <;> simp [go_sem, ex])

set_option maxHeartbeats 1000000 in
theorem up_any (w : World) : Calls Try.prog 6 #[] w fun e w' => e = .returned (.bool true) ∧ Below w.heap.size w w' := by
  obtain ⟨v, hv⟩ : ∃ v, v = w.alloc (.cells #[.int .i64 0, .int .i64 0, .int .i64 4, .int .i64 0, .int .i64 0, .int .i64 4] 24) := ⟨_, rfl⟩
  have A0 : PtsAt v v.heap.size (some ⟨w.heap.size, 0, none⟩) ex := by rw [hv]; exact pts_ex w _
  have HB0 := Lib.hid (show Below w.heap.size w v by rw [hv]; exact (Below.refl _ _).alloc (Nat.le_refl _) _)
  have C1 := Lib.hid (fun W (h : Below v.heap.size v W) => (show Calls Try.prog 8 #[.slice (some ⟨w.heap.size, 0, none⟩) 3 3] W fun e w' => e = .returned (.bool true) ∧ Below W.heap.size W w' by
    have := simple_any ex (some ⟨w.heap.size, 0, none⟩) 3 W ((A0.later h).wide h.size) (by decide)
    rw [ex_simple] at this; exact this))
  have C2 := Lib.hid (fun W (h : Below v.heap.size v W) => (show Calls Try.prog 10 #[.slice (some ⟨w.heap.size, 0, none⟩) 3 3, .agg #[.int .i64 1, .int .i64 1]] W fun e w' => e = .returned (.bool true) ∧ Below W.heap.size W w' by
    have := polyIn_any ex (some ⟨w.heap.size, 0, none⟩) 3 (1, 1) W ((A0.later h).wide h.size) (by decide) (by decide) ex_may (by decide)
    rw [ex_in] at this; exact this))
  have C3 := Lib.hid (fun W (h : Below v.heap.size v W) => (show Calls Try.prog 10 #[.slice (some ⟨w.heap.size, 0, none⟩) 3 3, .agg #[.int .i64 3, .int .i64 3]] W fun e w' => e = .returned (.bool false) ∧ Below W.heap.size W w' by
    have := polyIn_any ex (some ⟨w.heap.size, 0, none⟩) 3 (3, 3) W ((A0.later h).wide h.size) (by decide) (by decide) ex_may (by decide)
    rw [ex_out] at this; exact this))
  have C4 := Lib.hid (fun W (h : Below v.heap.size v W) => (show Calls Try.prog 12 #[.slice (some ⟨w.heap.size, 0, none⟩) 3 3] W fun e w' => e = .returned (.int .u64 16) ∧ Below W.heap.size W w' by
    have := twice_any ex (some ⟨w.heap.size, 0, none⟩) 3 W ((A0.later h).wide h.size) (by decide) (by decide) ex_may
    rw [ex_twice] at this; exact this))
  have C5 := Lib.hid (fun W => simple_few none 0 0 W (by decide))
  clear A0
  go_enter Try.func6, Try.ntmps6
  go_wp2_with fail
  rw [← hv]
  clear hv
  refine (C1.out _ (Below.refl _ _)).mono ?_
  rintro e w1 ⟨rfl, B1⟩
  go_wp2_with fail
  refine (C2.out _ B1).mono ?_
  rintro e w2 ⟨rfl, hb2⟩
  have B2 := B1.trans (hb2.mono B1.size)
  clear hb2
  go_wp2_with fail
  refine (C3.out _ B2).mono ?_
  rintro e w3 ⟨rfl, hb3⟩
  have B3 := B2.trans (hb3.mono B2.size)
  clear hb3
  go_wp2_with fail
  refine (C4.out _ B3).mono ?_
  rintro e w4 ⟨rfl, hb4⟩
  have B4 := B3.trans (hb4.mono B3.size)
  clear hb4
  go_wp2_with fail
  refine (C5.out _).mono ?_
  rintro e w5 ⟨rfl, hb5⟩
  have B5 := B4.trans (hb5.mono B4.size)
  clear hb5
  go_wp2_with fail
  go_ret
  exact ⟨rfl, HB0.out.trans (B5.mono HB0.out.size)⟩
end Go.Proofs.Ytoijgppkpagelaa.Pl
