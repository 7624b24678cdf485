/-
  Contract of slices.reverseRangeOrdered at uint64: the row is as Sort.reverseRange has it; nothing else is written.
-/
import Derived.Test.YtkkolodolmppnaaSoIns
import Derived.Sort.LotB
namespace Go.Proofs.Ytkkolodolmppnaa.So
open Go.RowKit
set_option linter.unusedVariables false

/-- The measure of a counter that runs down to -1. -/
def nOf1R : Value → Nat | .int _ q => (q + 1).toNat | _ => 0
def RevR (w : World) (blk off : Nat) (b : Nat) (d e : Array Int) (vi vj : Value) (wr : World) : Prop :=
  ∃ (i j : Nat) (dk : Array Int), vi = .int .i64 i ∧ vj = .int .i64 ((j : Int) - 1) ∧ j ≤ b ∧ i ≤ b ∧ dk.size = d.size ∧ SU w blk off dk wr ∧ Sort.reverseLoop i (j - 1) dk = e
theorem rev_go {i j : Nat} {d : Array Int} (h : i < j) : Sort.reverseLoop i j d = Sort.reverseLoop (i + 1) (j - 1) (Sort.swp d i j) := by rw [Sort.reverseLoop, if_pos h]
theorem rev_end {i j : Nat} {d : Array Int} (h : ¬ i < j) : Sort.reverseLoop i j d = d := by rw [Sort.reverseLoop, if_neg h]

set_option maxHeartbeats 2000000 in
theorem rev_any (blk off cap a b : Nat) (d : Array Int) (w : World) (hH : HU w blk off d) (hab : a ≤ b) (hb : b ≤ d.size) (hsz : d.size < 2305843009213693952) :
    Calls Try.prog 48 #[.slice (some ⟨blk, off, none⟩) d.size cap, .int .i64 a, .int .i64 b] w fun e w' =>
      e = .returned (.tuple #[]) ∧ SU w blk off (Sort.reverseRange d a b) w' := by
  have HH := Lib.hid hH
  clear hH
  go_enter Try.func48, Try.ntmps48
  go_wp2
  go_loopw [6, 7] (fun vi vj wr => RevR w blk off b d (Sort.reverseRange d a b) vi vj wr) (fun vi vj _ => nOf1R vj)
  case atStart => exact ⟨a, b, d, rfl, rfl, Nat.le_refl _, hab, rfl, SU.start HH.out, rfl⟩
  case round =>
    obtain ⟨i, j, dk, rfl, rfl, hj, hi, hsk, hS, hE⟩ := hrel
    by_cases hlt : i < j - 1
    · have hz : (i : Int) < (j : Int) - 1 := by omega
      obtain ⟨q, rfl⟩ : ∃ q, j = q + 1 := ⟨j - 1, by omega⟩
      obtain ⟨G, hG⟩ : ∃ G : Nat → Int, ∀ t, G t = dk[t]! := ⟨fun t => dk[t]!, fun _ => rfl⟩
      have hcw : ∀ t, t < d.size → wr.cell? ⟨blk, off + t, none⟩ = some (.int .u64 (G t)) := fun t ht => by rw [hG]; exact hS.c t (by omega)
      have hfw : ∀ t, t < d.size → wr.frozen? ⟨blk, off + t, none⟩ = false := fun t ht => hS.f t (by omega)
      have hS3 := hS.swapped i q (by omega) (by omega)
      rw [← hG, ← hG] at hS3
      have H3 := Lib.hid hS3
      have HSK := Lib.hid hsk
      have HE := Lib.hid hE
      have hq : q < d.size := by omega
      have hqi : i < q := by omega
      clear hS hG hS3 hsk hE HH hz
      go_wp2_with fail
      go_region
      go_wp2
      go_roundw
      case rel => exact ⟨i + 1, q, _, by simp, by simp, by omega, by omega, by rw [Sort.size_swp]; exact HSK.out, H3.out, by rw [← HE.out, Nat.add_sub_cancel, rev_go hqi]⟩
      case measure => simp [nOf1R]
    · have hz : ¬ (i : Int) < (j : Int) - 1 := by omega
      have HS := Lib.hid hS
      have HE := Lib.hid hE
      clear hS hE HH
      go_wp2
      go_end0
      refine ⟨rfl, ?_⟩
      rw [← HE.out, rev_end hlt]
      exact HS.out
end Go.Proofs.Ytkkolodolmppnaa.So
