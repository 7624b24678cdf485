/-
  Contract of slices.siftDownOrdered at uint64: the row is as Sort.siftDown has it; nothing else is written.
-/
import Derived.Test.YtkkolodolmppnaaSoLess
import Derived.Sort.LotB
import Derived.BigGuard
import Derived.BigCall
import Derived.CellFam
import Derived.Deep.QuietTactic
import Derived.BigQuiet
import Derived.BigRegion
import Derived.Deep.LoopGhost
namespace Go.Proofs.Ytkkolodolmppnaa.So
open Go.RowKit
set_option linter.unusedVariables false

theorem sift_none {hi f r : Nat} {d : Array Int} (h : hi ≤ 2 * r + 1) : Sort.siftDown Sort.ltInt hi f r d = d := by rw [Sort.siftDown, dif_pos h]
theorem sift_right {hi f r : Nat} {d : Array Int} (h : 2 * r + 2 < hi) (hl : Sort.ltInt d[f + (2 * r + 1)]! d[f + (2 * r + 2)]! = true) : Sort.siftDown Sort.ltInt hi f r d =
    if Sort.ltInt d[f + r]! d[f + (2 * r + 2)]! = true then Sort.siftDown Sort.ltInt hi f (2 * r + 2) (Sort.swp d (f + r) (f + (2 * r + 2))) else d := by
  conv => lhs; rw [Sort.siftDown]
  rw [dif_neg (by omega), if_pos (by rw [show f + (2 * r + 1) + 1 = f + (2 * r + 2) by omega, hl]; simp; omega)]
  cases hc : Sort.ltInt d[f + r]! d[f + (2 * r + 2)]! <;> simp [h]
theorem sift_left {hi f r : Nat} {d : Array Int} (h0 : 2 * r + 1 < hi) (hl : ¬ 2 * r + 2 < hi ∨ Sort.ltInt d[f + (2 * r + 1)]! d[f + (2 * r + 2)]! = false) : Sort.siftDown Sort.ltInt hi f r d =
    if Sort.ltInt d[f + r]! d[f + (2 * r + 1)]! = true then Sort.siftDown Sort.ltInt hi f (2 * r + 1) (Sort.swp d (f + r) (f + (2 * r + 1))) else d := by
  conv => lhs; rw [Sort.siftDown]
  rw [dif_neg (by omega), if_neg (by rw [show f + (2 * r + 1) + 1 = f + (2 * r + 2) by omega]; rcases hl with hl | hl <;> simp [hl] <;> omega)]
  cases hc : Sort.ltInt d[f + r]! d[f + (2 * r + 1)]! <;> simp

def SiftR (w : World) (blk off hi first : Nat) (d : Array Int) (e : Array Int) (vr : Value) (wr : World) : Prop :=
  ∃ (r : Nat) (dk : Array Int), vr = .int .i64 r ∧ r ≤ hi ∧ dk.size = d.size ∧ SU w blk off dk wr ∧ Sort.siftDown Sort.ltInt hi first r dk = e
theorem SiftR.next {w : World} {blk off hi first r c : Nat} {d e dk : Array Int} {wr : World} (hc : c < hi) (hs : dk.size = d.size) (hr : first + r < d.size) (hcs : first + c < d.size) (hS : SU w blk off dk wr)
    (he : Sort.siftDown Sort.ltInt hi first c (Sort.swp dk (first + r) (first + c)) = e) {G : Nat → Int} (hG : ∀ t, G t = dk[t]!) (vr : Value) (hv : vr = .int .i64 c) :
    SiftR w blk off hi first d e vr ((wr.setCell ⟨blk, off + (first + r), none⟩ (.int .u64 (G (first + c)))).setCell ⟨blk, off + (first + c), none⟩ (.int .u64 (G (first + r)))).drew :=
  ⟨c, _, hv, by omega, by rw [Sort.size_swp]; exact hs, by rw [hG, hG]; exact hS.swapped _ _ (by omega) (by omega), he⟩

set_option maxHeartbeats 4000000 in
theorem sift_any (blk off cap lo hi first : Nat) (d : Array Int) (w : World) (hH : HU w blk off d) (hlo : lo ≤ hi) (hb : first + hi ≤ d.size) (hsz : d.size < 2305843009213693952) :
    Calls Try.prog 55 #[.slice (some ⟨blk, off, none⟩) d.size cap, .int .i64 lo, .int .i64 hi, .int .i64 first] w fun e w' =>
      e = .returned (.tuple #[]) ∧ SU w blk off (Sort.siftDown Sort.ltInt hi first lo d) w' := by
  have HH := Lib.hid hH
  clear hH
  go_enter Try.func55, Try.ntmps55
  go_wp2
  go_loopw [8] (fun vr wr => SiftR w blk off hi first d (Sort.siftDown Sort.ltInt hi first lo d) vr wr) (fun vr _ => hi - nOf vr)
  case atStart => exact ⟨lo, d, rfl, hlo, rfl, SU.start HH.out, rfl⟩
  case round =>
    obtain ⟨r, dk, rfl, hr, hsk, hS, he⟩ := hrel
    obtain ⟨G, hG⟩ : ∃ G : Nat → Int, ∀ t, G t = dk[t]! := ⟨fun t => dk[t]!, fun _ => rfl⟩
    have hcw : ∀ t, t < d.size → wr.cell? ⟨blk, off + t, none⟩ = some (.int .u64 (G t)) := fun t ht => by rw [hG]; exact hS.c t (by omega)
    have hfw : ∀ t, t < d.size → wr.frozen? ⟨blk, off + t, none⟩ = false := fun t ht => hS.f t (by omega)
    have HG := Lib.hid hG
    have HSK := Lib.hid hsk
    have HE := Lib.hid he
    have H2 := Lib.hid hS
    clear hG he hS hsk HH
    by_cases h0 : hi ≤ 2 * r + 1
    · have h0z : (hi : Int) ≤ 2 * (r : Int) + 1 := by omega
      go_wp2
      go_end0
      refine ⟨rfl, ?_⟩
      rw [← HE.out, sift_none h0]
      exact H2.out
    · have h0z : ¬ ((hi : Int) ≤ 2 * (r : Int) + 1) := by omega
      by_cases h1 : 2 * r + 2 < hi
      · have h1z : 2 * (r : Int) + 1 + 1 < (hi : Int) := by omega
        go_wp2_with fail
        go_big_quiet (first | (go_at_call 50; refine Calls.quiet_of_same (less_any _ _ _)))
        go_wp2_with fail
        · have hl : Sort.ltInt (G (first + 2 * r + 1)) (G (first + 2 * r + 2)) = true := by assumption
          have hL : Sort.ltInt dk[first + (2 * r + 1)]! dk[first + (2 * r + 2)]! = true := by rw [← HG.out, ← HG.out]; exact hl
          clear hl
          revert nq; intro nq1
          have hcw2 : ∀ t, t < d.size → (wr.drewN nq1).cell? ⟨blk, off + t, none⟩ = some (.int .u64 (G t)) := hcw
          have hfw2 : ∀ t, t < d.size → (wr.drewN nq1).frozen? ⟨blk, off + t, none⟩ = false := hfw
          have H3 := Lib.hid (H2.out.drewN nq1)
          have HL := Lib.hid hL
          clear hcw hfw H2 hL
          generalize wr.drewN nq1 = wr2 at hcw2 hfw2 H3 ⊢
          go_big_quiet (first | (go_at_call 50; refine Calls.quiet_of_same (less_any _ _ _)))
          go_wp2_with fail
          · have hs : (!Sort.ltInt (G (first + r)) (G (first + 2 * r + 2))) = true := by assumption
            have hs0 : Sort.ltInt (G (first + r)) (G (first + 2 * r + 2)) = false := by simpa using hs
            have hs1 : Sort.ltInt (G (first + r)) (G (first + (2 * r + 2))) = false := hs0
            (try simp only [Exit.inBlock, Exit.then]); refine bodyPost_ret (results_none rfl _ _ _) rfl ?_
            refine ⟨rfl, ?_⟩
            rw [← HE.out, sift_right h1 HL.out, if_neg (by rw [← HG.out, ← HG.out, hs1]; simp)]
            exact H3.out.drewN nq
          · have hs : (!Sort.ltInt (G (first + r)) (G (first + 2 * r + 2))) = false := by assumption
            have hs0 : Sort.ltInt (G (first + r)) (G (first + 2 * r + 2)) = true := by simpa using hs
            have hs1 : Sort.ltInt (G (first + r)) (G (first + (2 * r + 2))) = true := hs0
            have HN := Lib.hid (SiftR.next (c := 2 * r + 2) (r := r) (first := first) (e := Sort.siftDown Sort.ltInt hi first lo d) (d := d) (hi := hi) (by omega) HSK.out (by omega) (by omega) (H3.out.drewN nq)
              (by rw [← HE.out, sift_right h1 HL.out, if_pos (by rw [← HG.out, ← HG.out]; exact hs1)]) HG.out)
            have hcw3 : ∀ t, t < d.size → (wr2.drewN nq).cell? ⟨blk, off + t, none⟩ = some (.int .u64 (G t)) := hcw2
            have hfw3 : ∀ t, t < d.size → (wr2.drewN nq).frozen? ⟨blk, off + t, none⟩ = false := hfw2
            clear hcw2 hfw2 H3 hs hs0 hs1
            generalize wr2.drewN nq = wr3 at hcw3 hfw3 HN ⊢
            go_region
            go_wp2
            go_roundw
            case rel => exact HN.out _ (by simp <;> omega)
            case measure => simp [nOf]; omega
        · have hl : Sort.ltInt (G (first + 2 * r + 1)) (G (first + 2 * r + 2)) = false := by assumption
          have hL : ¬ 2 * r + 2 < hi ∨ Sort.ltInt dk[first + (2 * r + 1)]! dk[first + (2 * r + 2)]! = false := Or.inr (by rw [← HG.out, ← HG.out]; exact hl)
          clear hl
          revert nq; intro nq1
          have hcw2 : ∀ t, t < d.size → (wr.drewN nq1).cell? ⟨blk, off + t, none⟩ = some (.int .u64 (G t)) := hcw
          have hfw2 : ∀ t, t < d.size → (wr.drewN nq1).frozen? ⟨blk, off + t, none⟩ = false := hfw
          have H3 := Lib.hid (H2.out.drewN nq1)
          have HL := Lib.hid hL
          clear hcw hfw H2 hL
          generalize wr.drewN nq1 = wr2 at hcw2 hfw2 H3 ⊢
          go_big_quiet (first | (go_at_call 50; refine Calls.quiet_of_same (less_any _ _ _)))
          go_wp2_with fail
          · have hs : (!Sort.ltInt (G (first + r)) (G (first + 2 * r + 1))) = true := by assumption
            have hs0 : Sort.ltInt (G (first + r)) (G (first + 2 * r + 1)) = false := by simpa using hs
            have hs1 : Sort.ltInt (G (first + r)) (G (first + (2 * r + 1))) = false := hs0
            (try simp only [Exit.inBlock, Exit.then]); refine bodyPost_ret (results_none rfl _ _ _) rfl ?_
            refine ⟨rfl, ?_⟩
            rw [← HE.out, sift_left (by omega) HL.out, if_neg (by rw [← HG.out, ← HG.out, hs1]; simp)]
            exact H3.out.drewN nq
          · have hs : (!Sort.ltInt (G (first + r)) (G (first + 2 * r + 1))) = false := by assumption
            have hs0 : Sort.ltInt (G (first + r)) (G (first + 2 * r + 1)) = true := by simpa using hs
            have hs1 : Sort.ltInt (G (first + r)) (G (first + (2 * r + 1))) = true := hs0
            have HN := Lib.hid (SiftR.next (c := 2 * r + 1) (r := r) (first := first) (e := Sort.siftDown Sort.ltInt hi first lo d) (d := d) (hi := hi) (by omega) HSK.out (by omega) (by omega) (H3.out.drewN nq)
              (by rw [← HE.out, sift_left (by omega) HL.out, if_pos (by rw [← HG.out, ← HG.out]; exact hs1)]) HG.out)
            have hcw3 : ∀ t, t < d.size → (wr2.drewN nq).cell? ⟨blk, off + t, none⟩ = some (.int .u64 (G t)) := hcw2
            have hfw3 : ∀ t, t < d.size → (wr2.drewN nq).frozen? ⟨blk, off + t, none⟩ = false := hfw2
            clear hcw2 hfw2 H3 hs hs0 hs1
            generalize wr2.drewN nq = wr3 at hcw3 hfw3 HN ⊢
            go_region
            go_wp2
            go_roundw
            case rel => exact HN.out _ (by simp <;> omega)
            case measure => simp [nOf]; omega
      · have h1z : decide (2 * (r : Int) + 1 + 1 < (hi : Int)) = false := decide_eq_false (by omega)
        go_wp2_with fail
        go_big_quiet (first | (go_at_call 50; refine Calls.quiet_of_same (less_any _ _ _)))
        go_wp2_with fail
        have hl : True := trivial
        have hL : ¬ 2 * r + 2 < hi ∨ Sort.ltInt dk[first + (2 * r + 1)]! dk[first + (2 * r + 2)]! = false := Or.inl h1
        clear hl
        revert nq; intro nq1
        have hcw2 : ∀ t, t < d.size → (wr.drewN nq1).cell? ⟨blk, off + t, none⟩ = some (.int .u64 (G t)) := hcw
        have hfw2 : ∀ t, t < d.size → (wr.drewN nq1).frozen? ⟨blk, off + t, none⟩ = false := hfw
        have H3 := Lib.hid (H2.out.drewN nq1)
        have HL := Lib.hid hL
        clear hcw hfw H2 hL
        generalize wr.drewN nq1 = wr2 at hcw2 hfw2 H3 ⊢
        go_big_quiet (first | (go_at_call 50; refine Calls.quiet_of_same (less_any _ _ _)))
        go_wp2_with fail
        · have hs : (!Sort.ltInt (G (first + r)) (G (first + 2 * r + 1))) = true := by assumption
          have hs0 : Sort.ltInt (G (first + r)) (G (first + 2 * r + 1)) = false := by simpa using hs
          have hs1 : Sort.ltInt (G (first + r)) (G (first + (2 * r + 1))) = false := hs0
          (try simp only [Exit.inBlock, Exit.then]); refine bodyPost_ret (results_none rfl _ _ _) rfl ?_
          refine ⟨rfl, ?_⟩
          rw [← HE.out, sift_left (by omega) HL.out, if_neg (by rw [← HG.out, ← HG.out, hs1]; simp)]
          exact H3.out.drewN nq
        · have hs : (!Sort.ltInt (G (first + r)) (G (first + 2 * r + 1))) = false := by assumption
          have hs0 : Sort.ltInt (G (first + r)) (G (first + 2 * r + 1)) = true := by simpa using hs
          have hs1 : Sort.ltInt (G (first + r)) (G (first + (2 * r + 1))) = true := hs0
          have HN := Lib.hid (SiftR.next (c := 2 * r + 1) (r := r) (first := first) (e := Sort.siftDown Sort.ltInt hi first lo d) (d := d) (hi := hi) (by omega) HSK.out (by omega) (by omega) (H3.out.drewN nq)
            (by rw [← HE.out, sift_left (by omega) HL.out, if_pos (by rw [← HG.out, ← HG.out]; exact hs1)]) HG.out)
          have hcw3 : ∀ t, t < d.size → (wr2.drewN nq).cell? ⟨blk, off + t, none⟩ = some (.int .u64 (G t)) := hcw2
          have hfw3 : ∀ t, t < d.size → (wr2.drewN nq).frozen? ⟨blk, off + t, none⟩ = false := hfw2
          clear hcw2 hfw2 H3 hs hs0 hs1
          generalize wr2.drewN nq = wr3 at hcw3 hfw3 HN ⊢
          go_region
          go_wp2
          go_roundw
          case rel => exact HN.out _ (by simp <;> omega)
          case measure => simp [nOf]; omega
end Go.Proofs.Ytkkolodolmppnaa.So
