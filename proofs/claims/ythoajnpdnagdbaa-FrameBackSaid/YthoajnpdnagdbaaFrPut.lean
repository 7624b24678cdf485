/-
  Contract of Put of package frame: a frame of new memory, or an error. Memory that was there is left as it was.
-/
import Derived.Test.YthoajnpdnagdbaaFrMem
import Derived.OwnWalk
namespace Go.Proofs.Ythoajnpdnagdbaa.Fr
open Go.RowKit Go.Proofs.Ythoajnpdnagdbaa.Fl Go.Proofs.Ythoajnpdnagdbaa.Wi
set_option linter.unusedVariables false
set_option linter.unusedSimpArgs false

/-- What Put tells. -/
def PutF (b : List UInt8) (w w' : World) (e : Ending) : Prop :=
  (4000 < b.length ∧ e = .returned (.tuple #[.slice none 0 0, .iface 34 (.int .i64 5)]) ∧ w = w') ∨
  (b.length ≤ 4000 ∧ ∃ a n c, e = .returned (.tuple #[.slice a n c, .nilIface]) ∧ OB w' w.heap.size (.slice a n c) (frm b) ∧ Below w.heap.size w w')
theorem head_cell {n : Nat} (h : n ≤ 4000) : Value.int .u8 ((UInt8.ofNat (n / 256)).toNat : Int) = .int .u8 ((n : Int) / 256) ∧ Value.int .u8 ((UInt8.ofNat (n % 256)).toNat : Int) = .int .u8 ((n : Int) % 256) := by
  rw [toNat_of (by omega), toNat_of (by omega)]
  constructor <;> congr 1 <;> omega
/-- The two bytes of a head in a new block. -/
theorem head_new (w : World) {n : Nat} (h : n ≤ 4000) (t : TypeId) : BytesAt (w.alloc (.cells #[.int .u8 ((n : Int) / 256), .int .u8 ((n : Int) % 256)] t)) (fun _ => True) (some ⟨w.heap.size, 0, none⟩) [UInt8.ofNat (n / 256), UInt8.ofNat (n % 256)] := by
  refine ⟨by simp [maxLen], fun _ => ⟨w.heap.size, 0, rfl, trivial, fun k hk => ?_⟩⟩
  obtain ⟨h1, h2⟩ := head_cell h
  have hb := heap_alloc_new w (.cells #[.int .u8 ((n : Int) / 256), .int .u8 ((n : Int) % 256)] t)
  generalize w.alloc (.cells #[.int .u8 ((n : Int) / 256), .int .u8 ((n : Int) % 256)] t) = V at hb ⊢
  match k, hk with
  | 0, hk =>
    simp only [List.getElem_cons_zero]
    rw [h1]
    simp [World.cell?, hb]
  | 1, hk =>
    simp only [List.getElem_cons_succ, List.getElem_cons_zero]
    rw [h2]
    simp [World.cell?, hb]
  | k + 2, hk => simp at hk; omega
set_option maxHeartbeats 2000000
set_option maxRecDepth 100000
theorem putF_any (a : Option Addr) (c : Nat) (b : List UInt8) (w : World) {S : Nat → Prop} (hS : ∀ g, S g → g < w.heap.size) (hB : BytesAt w S a b) :
    Calls Try.prog 12 #[.slice a b.length c] w fun e w' => PutF b w w' e := by
  obtain ⟨n, hn⟩ : ∃ n, n = b.length := ⟨_, rfl⟩
  have HB := Lib.hid hB
  have HN := Lib.hid hn
  have h63 : n ≤ 9223372036854775807 := by have := hB.1; unfold maxLen at this; omega
  rw [← hn]
  unfold PutF
  rw [← hn]
  clear hB hn
  by_cases hl : (4000 : Int) < (n : Int)
  · go_enter Try.func12, Try.ntmps12
    go_wp2_with fail
    refine bodyPost_ret (v := .tuple #[.slice none 0 0, .iface 34 (.int .i64 5)]) (by simp [results, Try.results12, go_sem, *]) rfl (Or.inl ⟨by omega, rfl, rfl⟩)
  · obtain ⟨i0, hi, hz0, hz1, hz2⟩ := info_parts infoB
    have hw1 : wrap64 (2 + (n : Int)) = ((2 + n : Nat) : Int) := by unfold wrap64; omega
    have HW1 := Lib.hid hw1
    have h2n : 2 + n ≤ 5000 := by omega
    obtain ⟨m, hm⟩ : ∃ m, m = 2 + n := ⟨_, rfl⟩
    rw [← hm] at hw1 h2n
    clear hw1
    go_enter Try.func12, Try.ntmps12
    go_wp2_with (first
      | (at_make; refine wpList_make_own _ rfl _ _ 26 rfl w.heap.size 5 i0 (.int .u8 0) 1 Try.underlying26 hi hz0 hz1 .i64 .i64 _ m rfl rfl (by omega) (by rw [hz2]; omega) (by unfold maxLen; omega) (Nat.le_refl _) ?_; intro w2 hown hgrow
         have O2 := Lib.hid (show OB w2 w.heap.size (.slice (some ⟨w.heap.size, 0, none⟩) 0 m) [] from hown)
         have B2 := Lib.hid (show Below w.heap.size w w2 from below_grown (Below.refl _ _) (Nat.le_refl _) hgrow (fun k hk => by cases hk))
         obtain ⟨w3, hw3⟩ : ∃ W0 : World, W0 = w2.alloc (.cells #[.int .u8 ((n : Int) / 256), .int .u8 ((n : Int) % 256)] 5) := ⟨_, rfl⟩
         have O3 := Lib.hid (show OB w3 w.heap.size (.slice (some ⟨w.heap.size, 0, none⟩) 0 m) [] by rw [hw3]; exact O2.out.later (below_alloc _ _))
         have B3 := Lib.hid (show Below w.heap.size w w3 by rw [hw3]; exact B2.out.alloc B2.out.size _)
         have N3 := Lib.hid (show BytesAt w3 (fun _ => True) (some ⟨w2.heap.size, 0, none⟩) [UInt8.ofNat (n / 256), UInt8.ofNat (n % 256)] by rw [hw3]; exact head_new w2 (by omega) _)
         have HW3 := Lib.hid hw3
         subst hm
         clear hown hgrow hw3)
      | (at_builtin; rw [← HW3.out]; refine wpList_append_bytes rfl _ _ rfl w.heap.size _ [] rfl O3.out _ 2 2 _ rfl rfl N3.out (by simp) B3.out.size ?_; intro v' w4 hrow4 hg4 hat4; obtain ⟨a4, n4, k4, e4⟩ := own_slice hrow4; subst e4
         have O4 := Lib.hid hrow4
         have B4 := Lib.hid (show Below w.heap.size w w4 from below_grown B3.out B3.out.size hg4 (fun k hk => (O3.out.lt hk).1))
         have N4 := Lib.hid (show BytesAt w4 (Old w4.heap.size) a b from HB.out.far fun g hg => ⟨Nat.lt_of_lt_of_le (hS g hg) B4.out.size, B4.out.block g (hS g hg)⟩)
         clear hrow4 hg4 hat4)
      | (at_builtin; refine wpList_append_bytes rfl _ _ rfl w.heap.size _ _ rfl O4.out _ n c b HN.out rfl N4.out (by have := HN.out; simp; omega) B4.out.size ?_; intro v' w5 hrow5 hg5 hat5; obtain ⟨a5, n5, k5, e5⟩ := own_slice hrow5; subst e5
         have O5 := Lib.hid hrow5
         have B5 := Lib.hid (show Below w.heap.size w w5 from below_grown B4.out B4.out.size hg5 (fun k hk => (O4.out.lt hk).1))
         clear hrow5 hg5 hat5))
    refine bodyPost_ret (v := .tuple #[.slice a5 n5 k5, .nilIface]) (by simp [results, Try.results12, go_sem, *]) rfl (Or.inr ⟨by omega, _, _, _, rfl, ?_, B5.out⟩)
    have := O5.out
    unfold frm
    rw [← HN.out]
    simpa using this
end Go.Proofs.Ythoajnpdnagdbaa.Fr
