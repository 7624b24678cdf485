/-
  Contract of slices.insertionSortOrdered at uint64: the row is sorted as Sort.insertionSort has it; nothing else is written.
-/
import Derived.Test.YtkkolodolmppnaaSoLess
import Derived.Sort.LotA
import Derived.BigGuard
import Derived.BigCall
import Derived.CellFam
import Derived.Deep.QuietTactic
import Derived.BigQuiet
namespace Go.Proofs.Ytkkolodolmppnaa.So
open Go.RowKit
set_option linter.unusedVariables false

theorem ins_go {a j : Nat} {d : Array Int} (hj : a < j) (hl : Sort.ltInt d[j]! d[j - 1]! = true) : Sort.insInner Sort.ltInt a j d = Sort.insInner Sort.ltInt a (j - 1) (Sort.swp d j (j - 1)) := by
  obtain ⟨k, rfl⟩ : ∃ k, j = k + 1 := ⟨j - 1, by omega⟩
  simp only [Nat.add_sub_cancel] at hl ⊢
  rw [Sort.insInner, if_pos (by simp [hl]; omega)]
theorem ins_end {a j : Nat} {d : Array Int} (h : j ≤ a ∨ Sort.ltInt d[j]! d[j - 1]! = false) : Sort.insInner Sort.ltInt a j d = d := by
  cases j with
  | zero => rw [Sort.insInner]
  | succ k =>
    simp only [Nat.add_sub_cancel] at h
    rw [Sort.insInner, if_neg (by rcases h with h | h <;> simp [h]; omega)]

/-- Between two rounds of the outer loop; of the inner one. -/
def InsO (w : World) (blk off a b : Nat) (d : Array Int) (vi : Value) (wr : World) : Prop :=
  ∃ (i : Nat) (dk : Array Int), vi = .int .i64 i ∧ a < i ∧ i ≤ b + 1 ∧ dk.size = d.size ∧ SU w blk off dk wr ∧ Sort.insOuter Sort.ltInt a b i dk = Sort.insOuter Sort.ltInt a b (a + 1) d
def InsI (w : World) (blk off a i : Nat) (n : Nat) (dk : Array Int) (vj : Value) (wr : World) : Prop :=
  ∃ (j : Nat) (dj : Array Int), vj = .int .i64 j ∧ a ≤ j ∧ j ≤ i ∧ dj.size = n ∧ SU w blk off dj wr ∧ Sort.insInner Sort.ltInt a j dj = Sort.insInner Sort.ltInt a i dk
theorem InsI.out {w : World} {blk off a b i : Nat} {d dk dj : Array Int} {wr : World} {j : Nat} (hib : i < b) (hai : a < i) (hs : dj.size = d.size) (hS : SU w blk off dj wr) (hI : Sort.insInner Sort.ltInt a j dj = Sort.insInner Sort.ltInt a i dk)
    (hO : Sort.insOuter Sort.ltInt a b i dk = Sort.insOuter Sort.ltInt a b (a + 1) d) (h : j ≤ a ∨ Sort.ltInt dj[j]! dj[j - 1]! = false) (q : Nat) : InsO w blk off a b d (.int .i64 ((i : Int) + 1)) (wr.drewN q) :=
  ⟨i + 1, dj, by simp, by omega, by omega, hs, hS.drewN q, by rw [← hO, ← ins_end h, hI]; conv => { rhs; rw [Sort.insOuter, if_pos hib] }⟩

set_option maxHeartbeats 2000000 in
theorem ins_any (blk off cap a b : Nat) (d : Array Int) (w : World) (hH : HU w blk off d) (hab : a ≤ b) (hb : b ≤ d.size) (hsz : d.size < 4611686018427387904) :
    Calls Try.prog 44 #[.slice (some ⟨blk, off, none⟩) d.size cap, .int .i64 a, .int .i64 b] w fun e w' =>
      e = .returned (.tuple #[]) ∧ SU w blk off (Sort.insertionSort Sort.ltInt d a b) w' := by
  have HH := Lib.hid hH
  clear hH
  go_enter Try.func44, Try.ntmps44
  go_wp2
  go_loopw [6] (fun vi wr => InsO w blk off a b d vi wr) (fun vi _ => b + 1 - nOf vi)
  case atStart => exact ⟨a + 1, d, by simp, by omega, by omega, rfl, SU.start HH.out, rfl⟩
  case round =>
    obtain ⟨i, dk, rfl, hai, hib, hsk, hS, hO⟩ := hrel
    have HO := Lib.hid hO
    have HS := Lib.hid hS
    clear hO hS
    go_wp2
    · have hlt : i < b := by assumption
      go_loopw [7] (fun vj wr => InsI w blk off a i d.size dk vj wr) (fun vj _ => nOf vj)
      case atStart => exact ⟨i, dk, rfl, by omega, Nat.le_refl _, hsk, HS.out, rfl⟩
      case round =>
        obtain ⟨j, dj, rfl, haj, hji, hsj, hS2, hI⟩ := hrel
        obtain ⟨G, hG⟩ : ∃ G : Nat → Int, ∀ t, G t = dj[t]! := ⟨fun t => dj[t]!, fun _ => rfl⟩
        have hcw : ∀ t, t < d.size → wr.cell? ⟨blk, off + t, none⟩ = some (.int .u64 (G t)) := fun t ht => by rw [hG]; exact hS2.c t (by omega)
        have hfw : ∀ t, t < d.size → wr.frozen? ⟨blk, off + t, none⟩ = false := fun t ht => hS2.f t (by omega)
        have HG := Lib.hid hG
        have HSJ := Lib.hid hsj
        have OUT := Lib.hid (InsI.out hlt hai hsj hS2 hI HO.out)
        have HI := Lib.hid hI
        have H2 := Lib.hid hS2
        clear hG hI hS2 HO HS hsj
        go_wp2
        by_cases hja : a < j
        · go_quiet (first | (go_at_call 50; refine Calls.quiet_of_same (less_any _ _ _)))
          go_wp2
          · have hl : Sort.ltInt (G j) (G (j - 1)) = true := by assumption
            go_region
            all_goals go_wp2
            go_roundw
            case rel =>
              refine ⟨j - 1, Sort.swp dj j (j - 1), by congr 1; omega, by omega, by omega, by rw [Sort.size_swp]; exact HSJ.out, ?_, ?_⟩
              · rw [HG.out, HG.out]
                exact ((H2.out.drewN nq).swapped j (j - 1) (by rw [HSJ.out]; omega) (by rw [HSJ.out]; omega))
              · rw [← HI.out, ins_go hja (by rw [← HG.out, ← HG.out]; exact hl)]
            case measure => simp [nOf]; omega
          · have hl : Sort.ltInt (G j) (G (j - 1)) = false := by assumption
            go_roundw
            case rel => exact OUT.out (Or.inr (by rw [← HG.out, ← HG.out]; exact hl)) nq
            case measure => simp [nOf]; omega
        · go_quiet (first | (go_at_call 50; refine Calls.quiet_of_same (less_any _ _ _)))
          go_wp2
          go_roundw
          case rel => exact OUT.out (Or.inl (by omega)) nq
          case measure => simp [nOf]; omega
    · have hge : ¬ i < b := by assumption
      go_end0
      refine ⟨rfl, ?_⟩
      unfold Sort.insertionSort
      rw [← HO.out, Sort.insOuter, if_neg hge]
      exact HS.out
end Go.Proofs.Ytkkolodolmppnaa.So
