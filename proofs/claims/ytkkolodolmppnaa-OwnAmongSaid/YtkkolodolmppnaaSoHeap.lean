/-
  Contracts of slices.heapSortOrdered at uint64: the row is as Sort.heapSort has it; nothing else is written.
-/
import Derived.Test.YtkkolodolmppnaaSoSift
namespace Go.Proofs.Ytkkolodolmppnaa.So
open Go.RowKit
set_option linter.unusedVariables false

/-- The measure of a counter that runs down to -1. -/
def nOf1 : Value → Nat | .int _ q => (q + 1).toNat | _ => 0
theorem size_sift (hi F : Nat) : ∀ (n root : Nat) (d : Array Int), hi - root ≤ n → (Sort.siftDown Sort.ltInt hi F root d).size = d.size := by
  intro n
  induction n with
  | zero => intro root d h; rw [Sort.siftDown, dif_pos (by omega)]
  | succ n ih =>
    intro root d h
    rw [Sort.siftDown]
    split
    · rfl
    split
    · split
      · rfl
      split
      · rw [ih _ _ (by omega), Sort.size_swp]
      · rfl
    · split
      · rfl
      · rw [ih _ _ (by omega), Sort.size_swp]
theorem sift_size (hi F root : Nat) (d : Array Int) : (Sort.siftDown Sort.ltInt hi F root d).size = d.size := size_sift hi F _ root d (Nat.le_refl _)
theorem half_start {a b : Nat} (hab : a ≤ b) : ((b : Int) - (a : Int) - 1).tdiv 2 = (((b - a - 1) / 2 + 1 : Nat) : Int) - 1 := by
  rcases Nat.eq_or_lt_of_le hab with h | h
  · subst h; simp
  · rw [Int.tdiv_eq_ediv_of_nonneg (by omega)]; omega

def HeapB (w : World) (blk off a b : Nat) (d : Array Int) (vi : Value) (wr : World) : Prop :=
  ∃ (k : Nat) (dk : Array Int), vi = .int .i64 ((k : Int) - 1) ∧ k ≤ (b - a - 1) / 2 + 1 ∧ dk.size = d.size ∧ SU w blk off dk wr ∧ Sort.heapBuild Sort.ltInt (b - a) a k dk = Sort.heapBuild Sort.ltInt (b - a) a ((b - a - 1) / 2 + 1) d
def HeapP (w : World) (blk off a b : Nat) (d : Array Int) (vi : Value) (wr : World) : Prop :=
  ∃ (k : Nat) (dk : Array Int), vi = .int .i64 ((k : Int) - 1) ∧ k ≤ b - a ∧ dk.size = d.size ∧ SU w blk off dk wr ∧ Sort.heapPop Sort.ltInt a k dk = Sort.heapSort Sort.ltInt d a b

theorem sift_pop (blk off cap hi first len : Nat) (d : Array Int) (w : World) (hH : HU w blk off d) (hl : d.size = len) (hb : first + hi ≤ len) (hsz : len < 2305843009213693952) :
    Calls Try.prog 55 #[.slice (some ⟨blk, off, none⟩) len cap, .int .i64 0, .int .i64 hi, .int .i64 first] w fun e w' =>
      e = .returned (.tuple #[]) ∧ SU w blk off (Sort.siftDown Sort.ltInt hi first 0 d) w' := by
  subst hl
  exact sift_any blk off cap 0 hi first d w hH (Nat.zero_le _) hb hsz
theorem sift_pop0 (blk off cap first len : Nat) (d : Array Int) (w : World) (hH : HU w blk off d) (hl : d.size = len) (hb : first ≤ len) (hsz : len < 2305843009213693952) :
    Calls Try.prog 55 #[.slice (some ⟨blk, off, none⟩) len cap, .int .i64 0, .int .i64 0, .int .i64 first] w fun e w' =>
      e = .returned (.tuple #[]) ∧ SU w blk off (Sort.siftDown Sort.ltInt 0 first 0 d) w' := by
  subst hl
  exact sift_any blk off cap 0 0 first d w hH (Nat.zero_le _) hb hsz

set_option maxHeartbeats 500000 in
theorem heap_any (blk off cap a b : Nat) (d : Array Int) (w : World) (hH : HU w blk off d) (hab : a ≤ b) (hb : b ≤ d.size) (hsz : d.size < 2305843009213693952) :
    Calls Try.prog 45 #[.slice (some ⟨blk, off, none⟩) d.size cap, .int .i64 a, .int .i64 b] w fun e w' =>
      e = .returned (.tuple #[]) ∧ SU w blk off (Sort.heapSort Sort.ltInt d a b) w' := by
  have HH := Lib.hid hH
  clear hH
  have hst := half_start hab
  have hsub : (b : Int) - (a : Int) = ((b - a : Nat) : Int) := by omega
  obtain ⟨n, hn⟩ : ∃ n, n = b - a := ⟨_, rfl⟩
  rw [hsub, ← hn] at hst
  rw [← hn] at hsub
  have hnl : n < 2305843009213693952 := by omega
  have HN := Lib.hid hn
  clear hn
  go_enter Try.func45, Try.ntmps45
  go_wp2
  clear hst
  go_loopw [9] (fun vi wr => HeapB w blk off a b d vi wr) (fun vi _ => nOf1 vi)
  case atStart => exact ⟨(b - a - 1) / 2 + 1, d, by congr 1; omega, Nat.le_refl _, rfl, SU.start HH.out, rfl⟩
  case round =>
    obtain ⟨k, dk, rfl, hk, hsk, hS, hE⟩ := hrel
    have HE := Lib.hid hE
    have HS := Lib.hid hS
    have HSK := Lib.hid hsk
    clear hE hS hsk
    cases k with
    | zero =>
      go_wp2
      have hB : Sort.heapPop Sort.ltInt a (b - a) dk = Sort.heapSort Sort.ltInt d a b := by
        unfold Sort.heapSort; rw [← HE.out]; rfl
      have HB := Lib.hid hB
      clear hB
      go_loopw [10] (fun vi wr => HeapP w blk off a b d vi wr) (fun vi _ => nOf1 vi)
      case atStart => exact ⟨b - a, dk, by rw [← HN.out], Nat.le_refl _, HSK.out, HS.out, HB.out⟩
      case round =>
        obtain ⟨k, dj, rfl, hk, hsj, hS2, hE2⟩ := hrel
        have HE2 := Lib.hid hE2
        have HSJ := Lib.hid hsj
        clear hE2 hsj
        cases k with
        | zero =>
          have H2 := Lib.hid hS2
          clear hS2
          go_wp2
          go_end0
          refine ⟨rfl, ?_⟩
          rw [← HE2.out]
          exact H2.out
        | succ k =>
          obtain ⟨G, hG⟩ : ∃ G : Nat → Int, ∀ t, G t = dj[t]! := ⟨fun t => dj[t]!, fun _ => rfl⟩
          have hcw : ∀ t, t < d.size → wr.cell? ⟨blk, off + t, none⟩ = some (.int .u64 (G t)) := fun t ht => by rw [hG]; exact hS2.c t (by rw [HSJ.out]; exact ht)
          have hfw : ∀ t, t < d.size → wr.frozen? ⟨blk, off + t, none⟩ = false := fun t ht => hS2.f t (by rw [HSJ.out]; exact ht)
          have hkk : k + 1 ≤ n := by rw [HN.out]; exact hk
          have hnb : n ≤ d.size - a := by rw [HN.out]; omega
          have hkn : a + k < d.size := by omega
          clear hnb
          rcases Nat.eq_zero_or_pos k with hk0 | hkp
          · subst hk0
            have hS3 := hS2.swapped a a (by rw [HSJ.out]; omega) (by rw [HSJ.out]; omega)
            rw [← hG] at hS3
            have H3 := Lib.hid hS3
            clear hS2 hG hS3
            go_wp2_with fail
            go_region
            go_wp2_with fail
            refine (sift_pop0 blk off cap a d.size (Sort.swp dj a a) _ H3.out.1 (by rw [Sort.size_swp]; exact HSJ.out) (by omega) hsz).mono ?_
            rintro e w1 ⟨rfl, hw1⟩
            have H4 := Lib.hid (SU.trans H3.out hw1)
            clear hw1
            go_wp2
            go_roundw
            case rel => (repeat apply Exists.intro); exact ⟨⟨0, _, by simp, by omega, by rw [sift_size, Sort.size_swp]; exact HSJ.out, H4.out, by rw [← HE2.out]; rfl⟩, rfl⟩
            case measure => simp [nOf1]
          · have hS3 := hS2.swapped a (a + k) (by rw [HSJ.out]; omega) (by rw [HSJ.out]; omega)
            rw [← hG, ← hG] at hS3
            have H3 := Lib.hid hS3
            clear hS2 hG hS3
            go_wp2_with fail
            go_region
            go_wp2_with fail
            refine (sift_pop blk off cap k a d.size (Sort.swp dj a (a + k)) _ H3.out.1 (by rw [Sort.size_swp]; exact HSJ.out) (by omega) hsz).mono ?_
            rintro e w1 ⟨rfl, hw1⟩
            have H4 := Lib.hid (SU.trans H3.out hw1)
            clear hw1
            go_wp2
            go_roundw
            case rel => (repeat apply Exists.intro); exact ⟨⟨k, _, by simp, by omega, by rw [sift_size, Sort.size_swp]; exact HSJ.out, H4.out, by rw [← HE2.out]; rfl⟩, rfl⟩
            case measure => simp [nOf1]
    | succ k =>
      have hcall := sift_any blk off cap k (b - a) a dk wr HS.out.1 (by omega) (by rw [HSK.out]; omega) (by rw [HSK.out]; omega)
      rw [HSK.out, ← HN.out] at hcall
      go_wp2_with (go_at_call 55; refine hcall.mono ?_; rintro e w1 ⟨rfl, hw1⟩)
      have H4 := Lib.hid (SU.trans HS.out hw1)
      clear hw1
      go_roundw
      case rel => exact ⟨k, _, by simp, by omega, by rw [sift_size]; exact HSK.out, H4.out, by rw [← HE.out, HN.out]; rfl⟩
      case measure => simp [nOf1]

end Go.Proofs.Ytkkolodolmppnaa.So
