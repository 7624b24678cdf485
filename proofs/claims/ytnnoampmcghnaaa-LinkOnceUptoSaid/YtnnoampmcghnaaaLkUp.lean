/-
  Contract of the document's example for links, at the head of the statements: it holds. Memory that was there is left as it was.
-/
import Derived.Test.YtnnoampmcghnaaaLkSmall
import Derived.Test.YtnnoampmcghnaaaLkSend
import Derived.Test.YtnnoampmcghnaaaLkFresh
import Derived.Test.YtnnoampmcghnaaaLkAck
import Derived.Lib.SlBytesConst
namespace Go.Proofs.Ytnnoampmcghnaaa.Lk
open Go.RowKit Go.Proofs.Ytnnoampmcghnaaa.Fl Go.Proofs.Ytnnoampmcghnaaa.Wi Go.Proofs.Ytnnoampmcghnaaa.Fr
set_option linter.unusedVariables false
set_option linter.unusedSimpArgs false
set_option maxHeartbeats 4000000
set_option maxRecDepth 100000
theorem eqe_11 (w : World) : (binOp .eql 26 (.iface 31 (.int .i64 1)) (.iface 31 (.int .i64 1))).run Try.prog w = .ok (.bool true) w := by kernel_rfl
theorem nee_nil (w : World) : (binOp .neq 26 .nilIface .nilIface).run Try.prog w = .ok (.bool false) w := by kernel_rfl
theorem bytes_new (w : World) (l : List UInt8) (t : TypeId) (fr : Nat × Nat) (hl : l.length ≤ maxLen) : BytesAt (w.alloc (.cells (byC l).toArray t fr)) (fun g => g = w.heap.size) (some ⟨w.heap.size, 0, none⟩) l := by
  refine ⟨hl, fun _ => ⟨w.heap.size, 0, rfl, rfl, fun k hk => ?_⟩⟩
  have hb := heap_alloc_new w (.cells (byC l).toArray t fr)
  generalize w.alloc (.cells (byC l).toArray t fr) = V at hb ⊢
  simp [World.cell?, hb, byC, hk]
theorem Nxt.above {w : World} {v v' : Value} (h : Nxt w v v') {z : Nat} (hv : ∀ k, v.ownBlock = some k → z ≤ k) (hz : z ≤ w.heap.size) : ∀ k, v'.ownBlock = some k → z ≤ k := by
  intro k hk
  rcases h with e | ⟨b, e, hb⟩
  · exact hv k (by rw [← e]; exact hk)
  · rw [e] at hk; cases hk; omega
theorem lv_below {X : Nat → Prop} {z : Nat} {w W V : World} (h : Below z w W) (hz : z ≤ w.heap.size) (k : Lv X W V) (hx : ∀ g, g < z → ¬ X g) : Below z w V := h.trans (k.old (Nat.le_trans hz h.size) hx)
theorem up_any (w : World) : Calls Try.prog 5 #[] w fun e w' => e = .returned (.bool true) ∧ Below w.heap.size w w' := by
  have q1 := eqe_11
  have q2 := nee_nil
  have q3 := fun (w : World) (C : Array Value) (n c : Nat) => Lib.run_convert_bytes_const (P := Try.prog) w 38 5 C n c Try.underlying38 Try.underlying5
  go_enter Try.func5, Try.ntmps5
  go_wp2_with fail
  refine Calls.mono (newS_any 1 (by omega) (by omega) w) ?_
  rintro e w1 ⟨rfl, hs1, hb1⟩
  have S1 := Lib.hid hs1
  have B1 := Lib.hid hb1
  clear hs1 hb1
  obtain ⟨p, hp⟩ : ∃ p, p = w.heap.size := ⟨_, rfl⟩
  rw [← hp] at S1
  rw [← hp]
  have HP := Lib.hid hp
  clear hp
  go_wp2_with fail
  refine Calls.mono (newS_bad 65 (by omega) w1) ?_
  rintro e w1' ⟨rfl, rfl⟩
  go_wp2_with fail
  refine Calls.mono (newR_any w1) ?_
  rintro e w2 ⟨rfl, hr2, hb2⟩
  obtain ⟨r, hr⟩ : ∃ r, r = w1.heap.size := ⟨_, rfl⟩
  rw [← hr] at hr2
  rw [← hr]
  have hpr : p < r := by rw [hr]; exact S1.out.lt
  have R2 := Lib.hid hr2
  have S2 := Lib.hid (S1.out.later hb2)
  have B2 := Lib.hid (show Below w.heap.size w w2 from B1.out.trans (hb2.mono (by have := B1.out.size; exact this)))
  clear hr2 hb2 hr S1
  obtain ⟨w3, hw3⟩ : ∃ W0 : World, W0 = w2.alloc (.cells #[.int .u8 97] 5 (1, 2)) := ⟨_, rfl⟩
  have S3 := Lib.hid (show Sn w3 (fun _ => False) p 1 (.slice none 0 0) [] [] 0 0 by rw [hw3]; exact S2.out.later (below_alloc _ _))
  have R3 := Lib.hid (show Bq w3 r 59 #[.int .u64 0] by rw [hw3]; exact R2.out.alloc _)
  have B3 := Lib.hid (show Below w.heap.size w w3 by rw [hw3]; exact B2.out.alloc B2.out.size _)
  have C3 := Lib.hid (send_any (T := fun g => g = w2.heap.size) (some ⟨w2.heap.size, 0, none⟩) 1 1 [97] w3 S3.out (by simp) (by simp) (by rw [hw3]; exact bytes_new w2 [97] _ _ (by simp [maxLen])) rfl (by simp) (fun g hg => by rw [hg, hw3]; simp))
  have HW3 := Lib.hid hw3
  clear hw3 S2 R2
  go_wp2_with fail
  rw [← HW3.out]
  refine Calls.mono C3.out ?_
  rintro e w4 ⟨rfl, v4, cs4, hs4, hl4, hn4⟩
  have S4 := Lib.hid hs4
  have V4 := Lib.hid (hn4.above (z := r + 1) (fun k e => by cases e) R3.out.lt)
  have R4 := Lib.hid (show Bq w4 r 59 #[.int .u64 0] from (hl4.block r R3.out.lt (by rintro (e | e); omega; cases e)).trans R3.out)
  have B4 := Lib.hid (lv_below B3.out (Nat.le_refl _) hl4 (fun g hg => by rintro (e | e); (have := HP.out; omega); cases e))
  have HR3 := Lib.hid R3.out.lt
  clear hs4 hl4 hn4 C3 S3 R3
  obtain ⟨w5, hw5⟩ : ∃ W0 : World, W0 = w4.alloc (.cells #[.int .u8 98] 5 (1, 2)) := ⟨_, rfl⟩
  have S5 := Lib.hid (show Sn w5 _ p 1 v4 cs4 ([] ++ [[97]]) 0 0 by rw [hw5]; exact S4.out.later (below_alloc _ _))
  have R5 := Lib.hid (show Bq w5 r 59 #[.int .u64 0] by rw [hw5]; exact R4.out.alloc _)
  have B5 := Lib.hid (show Below w.heap.size w w5 by rw [hw5]; exact B4.out.alloc B4.out.size _)
  have C5 := Lib.hid (send_any (T := fun g => g = w4.heap.size) (some ⟨w4.heap.size, 0, none⟩) 1 1 [98] w5 S5.out (by simp) (by simp) (by rw [hw5]; exact bytes_new w4 [98] _ _ (by simp [maxLen])) rfl (by simp) (fun g hg => by rw [hg, hw5]; simp))
  have HW5 := Lib.hid hw5
  clear hw5 S4 R4
  go_wp2_with fail
  rw [← HW5.out]
  refine Calls.mono C5.out ?_
  rintro e w6 ⟨rfl, v6, cs6, hs6, hl6, hn6⟩
  have S6 := Lib.hid hs6
  have V6 := Lib.hid (hn6.above V4.out R5.out.lt)
  have R6 := Lib.hid (show Bq w6 r 59 #[.int .u64 0] from (hl6.block r R5.out.lt (by rintro (e | e); omega; (have := V4.out r e.symm; omega))).trans R5.out)
  have B6 := Lib.hid (lv_below B5.out (Nat.le_refl _) hl6 (fun g hg => by rintro (e | e); (have := HP.out; omega); (have := V4.out g e.symm; have := HP.out; omega)))
  have HR5 := Lib.hid R5.out.lt
  clear hs6 hl6 hn6 C5 S5 R5
  have C6 := Lib.hid (fresh_any w6 S6.out (by intro x hx; simp at hx; rcases hx with rfl | rfl <;> simp) 1 (by simp [toldF]))
  go_wp2_with fail
  refine Calls.mono C6.out ?_
  rintro e w7 ⟨a, n, c, rfl, hn, hnc, ⟨rcs, hc7, hp7⟩, hs7, hl7⟩
  have hn1 : n = 1 := hn
  subst hn1
  have S7 := Lib.hid hs7
  have R7 := Lib.hid (show Bq w7 r 59 #[.int .u64 0] from (hl7.block r R6.out.lt (by omega)).trans R6.out)
  have B7 := Lib.hid (lv_below B6.out (Nat.le_refl _) hl7 (fun g hg => by have := HP.out; omega))
  obtain ⟨a1, k1, e1, e2, _, e3⟩ := hp7.2 0 (by rw [pkts_length]; omega)
  rw [pkts_get] at e1 e2 e3
  obtain ⟨g, o, rfl, hg, hc⟩ := hc7 (by rw [hp7.1, pkts_length]; omega)
  have d1 : w7.cell? ⟨g, o, none⟩ = some (.int .u64 0) := hc 0 _ e1
  have d2 : w7.cell? ⟨g, o + 1, none⟩ = some (.slice a1 1 k1) := hc 1 _ e2
  have BY := Lib.hid (show BytesAt w7 (Nd w6 w7) a1 [97] from e3)
  have HR6 := Lib.hid R6.out.lt
  clear hn hnc hc7 hp7 hs7 hl7 e1 e2 e3 hc C6 S6 R6
  have C7 := Lib.hid (take_yes r 0 a1 1 k1 [97] w7 R7.out (by omega) BY.out rfl (by simp) (fun g hg => ⟨hg.2, by have := hg.1; have := HR6.out; omega⟩))
  go_wp2_with fail
  refine Calls.mono C7.out ?_
  rintro e w8 ⟨a8, c8, rfl, hc8, hb8, hr8, hl8⟩
  have S8 := Lib.hid (S7.out.keep (V := w8) (T := fun g => False ∨ g < w8.heap.size ∧ g ≠ p ∧ some g ≠ v6.ownBlock) (hl8.block p S7.out.lt (by omega)) (fun g hg => hl8.block g (S7.out.own hg).2 (by have := V6.out g hg; omega)) (fun g hg => ⟨Or.inr (by obtain ⟨x, y, z⟩ := S7.out.dis g hg; exact ⟨Nat.lt_of_lt_of_le x hl8.size, y, z⟩), hl8.block g (S7.out.dis g hg).1 (by rcases hg with (h | h) | h; exact h.elim; (have := h.1; have := HR3.out; omega); (have := h.1; have := HR5.out; omega))⟩) (fun g hg => by rcases hg with h | h; exact h.elim; exact h))
  have R8 := Lib.hid hr8
  have B8 := Lib.hid (lv_below B7.out (Nat.le_refl _) hl8 (fun g hg => by have := HP.out; omega))
  have BY8 := Lib.hid hb8
  have HO7 := Lib.hid (And.intro S7.out.lt fun k hk => (S7.out.own (k := k) hk).2)
  clear hc8 hb8 hr8 hl8 S7 R7
  go_wp2_with fail
  refine Calls.mono (want_any r 1 w8 R8.out) ?_
  rintro e w8' ⟨rfl, rfl⟩
  go_wp2_with fail
  refine Calls.mono (ack_yes 1 w8 S8.out (by omega) (by omega)) ?_
  rintro e w9 ⟨rfl, v9, cs9, hs9, hl9, hn9⟩
  have S9 := Lib.hid hs9
  have R9 := Lib.hid (show Bq w9 r 59 #[.int .u64 1] from (hl9.block r R8.out.lt (by rintro (e | e); omega; (have := V6.out r e.symm; omega))).trans R8.out)
  have B9 := Lib.hid (lv_below B8.out (Nat.le_refl _) hl9 (fun g hg => by rintro (e | e); (have := HP.out; omega); (have := V6.out g e.symm; have := HP.out; omega)))
  have BY9 := Lib.hid (show BytesAt w9 (Old w9.heap.size) a8 [97] from BY8.out.far fun g hg => ⟨Nat.lt_of_lt_of_le hg.2 hl9.size, hl9.block g hg.2 (by rintro (e | e); (have := hg.1; have := HO7.out.1; omega); (have := hg.1; have := HO7.out.2 g e.symm; omega))⟩)
  have t9 : (convert 38 9 (.slice a8 1 c8)).run Try.prog w9 = .ok (.string ⟨#[97]⟩) w9 := run_text a8 c8 [97] w9 BY9.out
  have C9 := Lib.hid (show Calls Try.prog 19 #[.pointer (some ⟨p, 0, none⟩)] w9 fun e w' => e = .returned (.int .i64 1) ∧ w9 = w' from by have := slen_any w9 S9.out; simpa using this)
  clear hs9 hl9 hn9 S8 R8
  go_wp2_with fail
  refine Calls.mono C9.out ?_
  rintro e w10 ⟨rfl, rfl⟩
  go_wp2_with fail
  refine Calls.mono (want_any r 1 w9 R9.out) ?_
  rintro e w10 ⟨rfl, rfl⟩
  go_wp2_with fail
  go_ret
  exact ⟨rfl, B9.out⟩
end Go.Proofs.Ytnnoampmcghnaaa.Lk
