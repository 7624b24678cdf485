/-
  The contract of the document's answer Join of layer 2 (rect), for coordinates that may be. Memory that was there is left as it was.
-/
import Derived.Test.YtiggjaodfmelpaaRcSubA
import Derived.Test.YtiggjaodfmelpaaKeepR
import Derived.Deep.RegionHeld3
import Derived.IntWalk
import Derived.Deep.MidRow
import Derived.Outline
namespace Go.Proofs.Ytiggjaodfmelpaa.Rc
open Go.RowKit Go.Proofs.Ytiggjaodfmelpaa.Pt

set_option maxHeartbeats 1000000 in
theorem refJoin_any (ax1 ay1 ax2 ay2 bx1 by1 bx2 by2 : Int) (w : World) (h1 : inR ax2 = true) (h2 : inR ay2 = true) (h3 : inR bx2 = true) (h4 : inR by2 = true) : Calls Try.prog 51 #[.agg #[.int .i64 ax1, .int .i64 ay1, .int .i64 ax2, .int .i64 ay2], .agg #[.int .i64 bx1, .int .i64 by1, .int .i64 bx2, .int .i64 by2]] w fun e w' => e = .returned (.agg #[.int .i64 (mn ax1 bx1), .int .i64 (mn ay1 by1), .int .i64 (mx ax2 bx2), .int .i64 (mx ay2 by2)]) ∧ Below w.heap.size w w' := by
  go_enter Try.func51, Try.ntmps51
  go_wp2_with fail
  go_region_held3 (fun W => W.cell? ⟨w.heap.size, 0, none⟩ = some (.int .i64 ax1) ∧ W.cell? ⟨w.heap.size, 1, none⟩ = some (.int .i64 ay1) ∧ W.cell? ⟨w.heap.size, 2, none⟩ = some (.int .i64 ax2) ∧ W.cell? ⟨w.heap.size, 3, none⟩ = some (.int .i64 ay2) ∧ W.cell? ⟨w.heap.size + 1, 0, none⟩ = some (.int .i64 bx1) ∧ W.cell? ⟨w.heap.size + 1, 1, none⟩ = some (.int .i64 by1) ∧ W.cell? ⟨w.heap.size + 1, 2, none⟩ = some (.int .i64 bx2) ∧ W.cell? ⟨w.heap.size + 1, 3, none⟩ = some (.int .i64 by2))
    (go_keep)
    (first | (go_at_call 60; refine (less_any _ _ _).mono ?_; rintro e w1 ⟨rfl, rfl⟩) | (go_at_call 61; refine (more_any _ _ _ (by assumption) (by assumption)).mono ?_; rintro e w1 ⟨rfl, rfl⟩))
  go_wp2_with fail
  refine bodyPost_ret (v := .agg #[.int .i64 (mn ax1 bx1), .int .i64 (mn ay1 by1), .int .i64 (mx ax2 bx2), .int .i64 (mx ay2 by2)]) (by simp [results, Try.results51, go_sem]) rfl ⟨rfl, ?_⟩
  exact ((((Below.refl _ _).alloc (Nat.le_refl _) _).alloc (by simp) _).alloc (by simp; omega) _).drew

end Go.Proofs.Ytiggjaodfmelpaa.Rc
