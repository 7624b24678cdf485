/-
  Contracts of the small functions at, follows and allMay of layer 3 (poly), for a list of 1 to 70 points. Memory that was there is left as it was.
-/
import Derived.Test.YtiggjaodfmelpaaPlBool
import Derived.Test.YtiggjaodfmelpaaPtMay
import Derived.Test.YtiggjaodfmelpaaPts
import Derived.Handy
namespace Go.Proofs.Ytiggjaodfmelpaa.Pl
open Go.RowKit Go.Proofs.Ytiggjaodfmelpaa.Pt Go.Proofs.Ytiggjaodfmelpaa.Rc Go.Proofs.Ytiggjaodfmelpaa.Pts
set_option linter.unusedVariables false

/-- Where the vertex at j lies, gone round. -/
theorem at_cell {w : World} {B : Nat} {A : Option Addr} {l : List Pnt} (hA : PtsAt w B A l) (h0 : 0 < l.length) (j : Int) (hj : 0 ≤ j) :
    ∃ (b off r : Nat) (X Y : Int), A = some ⟨b, off, none⟩ ∧ b < B ∧ Int.tmod j (l.length : Int) = (r : Int) ∧ r < l.length ∧ X = (at_ l j).1 ∧ Y = (at_ l j).2 ∧ w.cell? ⟨b, off + r * 2, none⟩ = some (.int .i64 X) ∧ w.cell? ⟨b, off + r * 2 + 1, none⟩ = some (.int .i64 Y) := by
  obtain ⟨b, off, e, hb, hc⟩ := hA (by intro h; subst h; simp at h0)
  have h1 : 0 ≤ j % (l.length : Int) := Int.emod_nonneg _ (by omega)
  have h2 : j % (l.length : Int) < (l.length : Int) := Int.emod_lt_of_pos _ (by omega)
  have hr : (j % (l.length : Int)).toNat < l.length := by omega
  have ea : at_ l j = l[(j % (l.length : Int)).toNat] := by
    unfold at_
    rw [List.getD_eq_getElem?_getD, List.getElem?_eq_getElem hr]; rfl
  refine ⟨b, off, (j % (l.length : Int)).toNat, (at_ l j).1, (at_ l j).2, e, hb, ?_, hr, rfl, rfl, ?_, ?_⟩
  · rw [Int.tmod_eq_emod_of_nonneg hj]; omega
  · rw [ea]; exact (hc _ hr).1
  · rw [ea]; exact (hc _ hr).2

theorem at_any (l : List Pnt) (A : Option Addr) (c : Nat) (j : Int) (w : World) (hA : PtsAt w w.heap.size A l) (h0 : 0 < l.length) (hn : l.length ≤ 70) (hj0 : 0 ≤ j) :
    Calls Try.prog 55 #[.slice A l.length c, .int .i64 j] w fun e w' => e = .returned (.agg #[.int .i64 (at_ l j).1, .int .i64 (at_ l j).2]) ∧ Below w.heap.size w w' := by
  obtain ⟨b, off, r, X, Y, rfl, hb, hr, hrl, hX, hY, c1, c2⟩ := at_cell hA h0 j hj0
  rw [← hX, ← hY]
  obtain ⟨n, e⟩ : ∃ n, n = l.length := ⟨_, rfl⟩
  rw [← e] at hn hr hrl h0 ⊢
  clear e hX hY hA
  have hn0 : (0 : Int) < (n : Int) := by omega
  have hr0 : (0 : Int) ≤ (r : Int) := by omega
  have hr1 : (r : Int) < (n : Int) := by omega
  go_enter Try.func55, Try.ntmps55
  go_wp2
  refine bodyPost_ret (v := .agg #[.int .i64 X, .int .i64 Y]) (by simp [results, Try.results55, go_sem]) rfl ⟨rfl, ?_⟩
  exact (Below.refl _ _).alloc (Nat.le_refl _) _

theorem mod_of {j n : Nat} (h : 0 < n) : ∃ r : Nat, Int.tmod ((j : Int) + 1) (n : Int) = (r : Int) ∧ r = (j + 1) % n ∧ r < n :=
  ⟨(j + 1) % n, by rw [Int.tmod_eq_emod_of_nonneg (by omega)]; exact (Int.natCast_emod (j + 1) n).symm, rfl, Nat.mod_lt _ h⟩

theorem follows_any (A : Option Addr) (n c i j : Nat) (w : World) (h0 : 0 < n) (hn : n ≤ 70) (hj : j ≤ 200) :
    Calls Try.prog 57 #[.slice A n c, .int .i64 i, .int .i64 j] w fun e w' => e = .returned (.bool (decide (i = (j + 1) % n))) ∧ Below w.heap.size w w' := by
  obtain ⟨r, hr, hr2, hr3⟩ := mod_of (j := j) h0
  rw [← hr2]
  clear hr2
  have hn0 : (0 : Int) < (n : Int) := by omega
  go_enter Try.func57, Try.ntmps57
  go_wp2
  go_ret
  have e : ((i : Int) == (r : Int)) = decide (i = r) := by rw [Bool.eq_iff_iff]; simp; omega
  exact ⟨by simp [e], Below.refl _ _⟩

/-- What holds at the head of each round of allMay's loop. -/
def MayRel (w : World) (l : List Pnt) (i : Value) (wr : World) : Prop := ∃ k : Nat, k ≤ l.length ∧ i = .int .i64 k ∧ (l.take k).all pmay = true ∧ Below w.heap.size w wr

set_option maxHeartbeats 1000000 in
theorem allMay_any (l : List Pnt) (A : Option Addr) (c : Nat) (w : World) (hA : PtsAt w w.heap.size A l) (h0 : 0 < l.length) (hn : l.length ≤ 70) :
    Calls Try.prog 41 #[.slice A l.length c] w fun e w' => e = .returned (.bool (l.all pmay)) ∧ Below w.heap.size w w' := by
  obtain ⟨b, off, rfl, hb, hc⟩ := hA (by intro h; subst h; simp at h0)
  obtain ⟨n, e⟩ : ∃ n, n = l.length := ⟨_, rfl⟩
  have HC := Lib.hid hc
  rw [← e] at hn h0 ⊢
  have E := Lib.hid e
  clear e hc hA
  go_enter Try.func41, Try.ntmps41
  go_wp2_with fail
  go_loopw [7] (fun i wr => MayRel w l i wr) (fun i _ => n - (intOf i).toNat)
  case atStart => exact ⟨0, Nat.zero_le _, rfl, rfl, Below.refl _ _⟩
  case round =>
    obtain ⟨k, hk, rfl, hall, hB⟩ := hrel
    by_cases hlt : k < n
    · have hkl : k < l.length := by rw [← E.out]; exact hlt
      obtain ⟨X, hX⟩ : ∃ X, X = l[k].1 := ⟨_, rfl⟩
      obtain ⟨Y, hY⟩ : ∃ Y, Y = l[k].2 := ⟨_, rfl⟩
      have c1 : wr.cell? ⟨b, off + k * 2, none⟩ = some (.int .i64 X) := by rw [hX]; exact (hB.cell (p := ⟨b, off + k * 2, none⟩) hb).trans (HC.out k hkl).1
      have c2 : wr.cell? ⟨b, off + k * 2 + 1, none⟩ = some (.int .i64 Y) := by rw [hY]; exact (hB.cell (p := ⟨b, off + k * 2 + 1, none⟩) hb).trans (HC.out k hkl).2
      have HX := Lib.hid hX
      have HY := Lib.hid hY
      have HA := Lib.hid hall
      clear hX hY hall
      have hk0 : (0 : Int) ≤ (k : Int) := by omega
      have hk1 : (k : Int) < (n : Int) := by omega
      go_wp2_with fail
      refine (may_any _ _ _).mono ?_
      rintro e w2 ⟨rfl, hb2⟩
      have B2 : Below w.heap.size w w2 := (hB.alloc hB.size _).trans (hb2.mono (by have := hB.size; simp; omega))
      clear hb2 c1 c2
      cases hm : mayB X Y
      · go_wp2_with fail
        have hno : l.all pmay = false := all_no hkl (by unfold pmay; rw [← HX.out, ← HY.out]; exact hm)
        rw [hno]
        go_ret
        exact ⟨rfl, B2⟩
      · go_wp2_with fail
        go_roundw
        case rel => exact ⟨k + 1, by omega, by go_num, all_succ hkl HA.out (by unfold pmay; rw [← HX.out, ← HY.out]; exact hm), B2⟩
        case measure => simp [intOf]; omega
    · have hkn : k = n := by have := E.out; omega
      have hyes : l.all pmay = true := by
        rw [hkn, E.out, List.take_of_length_le (Nat.le_refl _)] at hall; exact hall
      have HY := Lib.hid hyes
      clear hall hkn hyes
      go_wp2_with fail
      rw [HY.out]
      go_ret
      exact ⟨rfl, hB⟩
end Go.Proofs.Ytiggjaodfmelpaa.Pl
