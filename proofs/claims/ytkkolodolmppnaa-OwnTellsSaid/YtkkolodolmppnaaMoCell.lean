/-
  Contracts of layer 4 (morton): place and Cell. Memory that was there is left as it was.
-/
import Derived.Test.YtkkolodolmppnaaPtMay
import Derived.Test.YtkkolodolmppnaaMoSide
import Derived.Test.YtkkolodolmppnaaKeepR
import Derived.Deep.RegionHeld3
import Derived.IntWalk
namespace Go.Proofs.Ytkkolodolmppnaa.Mo
open Go.RowKit Go.Proofs.Ytkkolodolmppnaa.Pt

theorem place_any (k : Nat) (n : Int) (w : World) (h1 : 24 ≤ k) (h2 : k ≤ 31) (hn : inR n = true) : Calls Try.prog 28 #[.int .i64 k, .int .i64 n] w fun e w' => e = .returned (.int .i64 (colI k n)) ∧ w = w' := by
  obtain ⟨_, _⟩ := inR_iff.1 hn
  go_enter Try.func28, Try.ntmps28
  go_wp2
  go_ret
  exact ⟨by simp [colI], rfl⟩

theorem cell_arg (s x y : Int) (w : World) (h : shB s = false) : Calls Try.prog 16 #[.int .i64 s, .agg #[.int .i64 x, .int .i64 y]] w fun e w' => e = .returned (.tuple #[.int .i64 0, .int .i64 0, .iface 37 (.int .i64 1)]) ∧ Below w.heap.size w w' := by
  go_enter Try.func16, Try.ntmps16
  go_wp2_with (go_at_call 26; refine (may_any _ _).mono ?_; rintro e w' ⟨rfl, rfl⟩)
  exact bodyPost_ret (v := .tuple #[.int .i64 0, .int .i64 0, .iface 37 (.int .i64 1)]) (by simp [results, Try.results16, go_sem]) rfl ⟨rfl, (Below.refl _ _).alloc (Nat.le_refl _) _⟩

theorem cell_far (s x y : Int) (w : World) (h : shB s = true) (hm : mayB x y = false) : Calls Try.prog 16 #[.int .i64 s, .agg #[.int .i64 x, .int .i64 y]] w fun e w' => e = .returned (.tuple #[.int .i64 0, .int .i64 0, .iface 37 (.int .i64 11)]) ∧ Below w.heap.size w w' := by
  go_enter Try.func16, Try.ntmps16
  go_wp2_with (first | (go_at_call 26; refine (may_any _ _).mono ?_; rintro e w' ⟨rfl, rfl⟩) | (go_at_call 27; refine (Pt.may_any _ _ _).mono ?_; rintro e w1 ⟨rfl, hb1⟩))
  refine bodyPost_ret (v := .tuple #[.int .i64 0, .int .i64 0, .iface 37 (.int .i64 11)]) (by simp [results, Try.results16, go_sem]) rfl ⟨rfl, ?_⟩
  exact ((Below.refl _ _).alloc (Nat.le_refl _) _).trans (hb1.mono (by simp))

theorem cell_yes (k : Nat) (x y : Int) (w : World) (h1 : 24 ≤ k) (h2 : k ≤ 31) (hm : mayB x y = true) : Calls Try.prog 16 #[.int .i64 k, .agg #[.int .i64 x, .int .i64 y]] w fun e w' => e = .returned (.tuple #[.int .i64 (colI k x), .int .i64 (colI k y), .nilIface]) ∧ Below w.heap.size w w' := by
  have h := shB_of h1 h2
  obtain ⟨r1, r2⟩ := mayB_bd hm
  have L := Lib.hid (Kp.add0 ⟨Nat.le_refl _, Below.refl w.heap.size w⟩ w.heap.size rfl (.int .i64 x) (.int .i64 y) 23)
  go_enter Try.func16, Try.ntmps16
  go_wp2_with (first | (go_at_call 26; refine (may_any _ _).mono ?_; rintro e w' ⟨rfl, rfl⟩) | (go_at_call 27; refine (Pt.may_any _ _ _).mono ?_; rintro e w1 ⟨rfl, hb1⟩))
  have K := Kp.keep2 hb1 L.out
  clear hb1 L
  go_region_held3 (fun W => W.cell? ⟨w.heap.size, 0, none⟩ = some (.int .i64 x) ∧ W.cell? ⟨w.heap.size, 1, none⟩ = some (.int .i64 y) ∧ w.heap.size ≤ W.heap.size ∧ Below w.heap.size w W)
    (first | exact Kp.drew2 (by assumption) | assumption)
    (first | (go_at_call 28; refine (place_any k _ _ h1 h2 (by assumption)).mono ?_; rintro e w2 ⟨rfl, rfl⟩))
  go_wp2_with fail
  exact bodyPost_ret (v := .tuple #[.int .i64 (colI k x), .int .i64 (colI k y), .nilIface]) (by simp [results, Try.results16, go_sem]) rfl ⟨rfl, Kp.end2 (by assumption)⟩
end Go.Proofs.Ytkkolodolmppnaa.Mo
