/-
  Contract of slices.Sort at []uint64: the slice's cells hold what they held, rising; no other block that was there is written.
-/
import Derived.Test.YtkkolodolmppnaaSoPdq
namespace Go.Proofs.Ytkkolodolmppnaa.So
open Go.RowKit
set_option linter.unusedVariables false

theorem sort_any (blk off cap len : Nat) (D : Array Int) (hlen : D.size = len) (w : World) (hH : HU w blk off D) (hblk : blk < w.heap.size) (hsz : len < 1152921504606846976) :
    Calls Try.prog 33 #[.slice (some ⟨blk, off, none⟩) len cap] w fun e w' =>
      ∃ d' : Array Int, e = .returned (.tuple #[]) ∧ d'.size = len ∧ d'.toList = D.toList.mergeSort (fun x y => decide (x ≤ y)) ∧ SU w blk off d' w' := by
  subst hlen
  obtain ⟨k, hk⟩ : ∃ k, k = Lib.bitLen D.size := ⟨_, rfl⟩
  have hl : ∀ W, Calls Try.prog 40 #[.int .u64 (D.size : Int)] W fun e w' => e = .returned (.int .i64 (k : Int)) ∧ w' = W := fun W => by
    have := len_any (D.size : Int) W (by omega) (by omega)
    rw [Int.toNat_natCast] at this
    rw [hk]; exact this
  have hk2 : k ≤ 64 := by rw [hk]; exact Lib.bitLen_le _ 64 (by omega) (by omega)
  have hp := pdq_any (D.size + 1) blk off cap 0 D.size k D w (by omega) hH hblk (Nat.zero_le _) (Nat.le_refl _) hsz (by omega) (Or.inl rfl)
  have hp : Calls Try.prog 39 #[.slice (some ⟨blk, off, none⟩) D.size cap, .int .i64 0, .int .i64 D.size, .int .i64 k] w fun e w' =>
      ∃ d' : Array Int, e = .returned (.tuple #[]) ∧ Sort.PermIn 0 D.size D d' ∧ Sort.SortedIn Sort.ltInt 0 D.size d' ∧ SU w blk off d' w' := hp
  clear hk hH
  go_enter Try.func33, Try.ntmps33
  go_wp2_with (first | (go_at_call 40; refine (hl _).mono ?_; rintro e w' ⟨rfl, rfl⟩))
  refine hp.mono ?_
  rintro e w1 ⟨d', rfl, hP, hS, hU⟩
  go_wp2
  go_end0
  first | refine ⟨d', rfl, hP.1, ?_, hU⟩ | refine ⟨rfl, d', hP.1, ?_, hU⟩
  have := Sort.sorted_unique_holds (lt := Sort.ltInt) Sort.swo_ltInt (fun x y h1 h2 => by have := ltF.1 h1; have := ltF.1 h2; omega) D d' hP hS
  rw [this]
  congr 1
  funext x y
  simp [Sort.ltInt, ← decide_not]
end Go.Proofs.Ytkkolodolmppnaa.So
