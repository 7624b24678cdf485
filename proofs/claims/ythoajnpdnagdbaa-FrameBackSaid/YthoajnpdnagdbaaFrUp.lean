/-
  Contract of the document's example for frames, at the head of the statements: it holds. Memory that was there is left as it was.
-/
import Derived.Test.YthoajnpdnagdbaaFrLawK
import Derived.Test.YthoajnpdnagdbaaFrPut
import Derived.Lib.SlBytesConst
namespace Go.Proofs.Ythoajnpdnagdbaa.Fr
open Go.RowKit Go.Proofs.Ythoajnpdnagdbaa.Fl Go.Proofs.Ythoajnpdnagdbaa.Wi
set_option linter.unusedVariables false
set_option linter.unusedSimpArgs false

theorem frm_65 : frm [65] = [0, 1, 65] := rfl
theorem frs_65 : frs ([] ++ [0, 1, 65]) = ([[65]], 0, []) := by
  have h := frs_frm (b := [65]) (by simp) []
  rw [frm_65, List.append_nil, frs_nil] at h
  exact h
theorem FeedR.up {p : Nat} {v : Value} {w w' : World} {e : Ending} (h : FeedR p v [] [0, 1, 65] w w' e) : ∃ ta tc v', e = .returned (.tuple #[.slice ta 1 tc, .nilIface]) ∧ FrAt w' p v' [] false ∧ Fed w w' p v v' := by
  obtain ⟨ta, tn, tc, cs, T, v', rfl, h1, h2, h3, h4, h5⟩ := h
  unfold RSt at h4
  rw [frs_65] at h1 h4 ⊢
  rw [frs_nil] at h1
  have hT : T = [[65]] := by simpa using h1.symm
  subst hT
  have hn : tn = 1 := by rw [h2.cells.1, h3.1]; rfl
  subst hn
  exact ⟨ta, tc, v', rfl, h4, h5⟩
theorem PutF.one {b : List UInt8} {w w' : World} {e : Ending} (h : PutF b w w' e) (hl : b.length ≤ 4000) : ∃ a n c, e = .returned (.tuple #[.slice a n c, .nilIface]) ∧ OB w' w.heap.size (.slice a n c) (frm b) ∧ Below w.heap.size w w' := by
  rcases h with ⟨h1, _⟩ | ⟨_, h2⟩
  · omega
  · exact h2
theorem bytes_new (w : World) (l : List UInt8) (t : TypeId) (fr : Nat × Nat) (hl : l.length ≤ maxLen) : BytesAt (w.alloc (.cells (byC l).toArray t fr)) (fun g => g = w.heap.size) (some ⟨w.heap.size, 0, none⟩) l := by
  refine ⟨hl, fun _ => ⟨w.heap.size, 0, rfl, rfl, fun k hk => ?_⟩⟩
  have hb := heap_alloc_new w (.cells (byC l).toArray t fr)
  generalize w.alloc (.cells (byC l).toArray t fr) = V at hb ⊢
  simp [World.cell?, hb, byC, hk]
set_option maxHeartbeats 4000000
set_option maxRecDepth 100000
theorem up_any (w : World) : Calls Try.prog 5 #[] w fun e w' => e = .returned (.bool true) ∧ Below w.heap.size w w' := by
  obtain ⟨w1, hw1⟩ : ∃ W0 : World, W0 = w.alloc (.cells #[.int .u8 65] 5 (1, 2)) := ⟨_, rfl⟩
  have B1 := Lib.hid (show Below w.heap.size w w1 by rw [hw1]; exact below_alloc _ _)
  have CP := Lib.hid (putF_any (some ⟨w.heap.size, 0, none⟩) 1 [65] w1 (S := fun g => g = w.heap.size) (fun g hg => by rw [hg, hw1]; simp) (by rw [hw1]; exact bytes_new w [65] _ _ (by simp [maxLen])))
  have HW1 := Lib.hid hw1
  have q1 := Cn.nil_nil
  have q2 := fun (w : World) (C : Array Value) (n c : Nat) => Lib.run_convert_bytes_const (P := Try.prog) w 26 5 C n c Try.underlying26 Try.underlying5
  clear hw1
  go_enter Try.func5, Try.ntmps5
  go_wp2_with fail
  rw [← HW1.out]
  refine Calls.mono CP.out ?_
  rintro e w2 hP
  obtain ⟨a2, n2, c2, rfl, ho2, hb2⟩ := hP.one (by simp)
  rw [frm_65] at ho2
  have O2 := Lib.hid ho2
  have B2 := Lib.hid (B1.out.trans (hb2.mono B1.out.size))
  clear hP ho2 hb2
  go_wp2_with fail
  refine Calls.mono (new_any w2) ?_
  rintro e w3 ⟨rfl, hf3, hb3⟩
  have F3 := Lib.hid hf3
  have O3 := Lib.hid (O2.out.later hb3)
  have B3 := Lib.hid (B2.out.trans (hb3.mono B2.out.size))
  obtain ⟨p, hp⟩ : ∃ p, p = w2.heap.size := ⟨_, rfl⟩
  have HP := Lib.hid (show w.heap.size ≤ p by rw [hp]; exact B2.out.size)
  have HOP := Lib.hid (show ∀ k, (Value.slice a2 n2 c2).ownBlock = some k → k < p from fun k e => by rw [hp]; exact (O2.out.lt e).2)
  rw [← hp] at F3
  rw [← hp]
  clear hf3 hb3 hp
  obtain ⟨w4, hw4⟩ : ∃ W0 : World, W0 = w3.alloc (.cells #[.int .u8 0, .int .u8 1, .int .u8 65] 5) := ⟨_, rfl⟩
  have F4 := Lib.hid (show FrAt w4 p (.slice none 0 0) [] false by rw [hw4]; exact F3.out.later (below_alloc _ _))
  have O4 := Lib.hid (show OB w4 w1.heap.size (.slice a2 n2 c2) [0, 1, 65] by rw [hw4]; exact O3.out.later (below_alloc _ _))
  have B4 := Lib.hid (show Below w.heap.size w w4 by rw [hw4]; exact B3.out.alloc B3.out.size _)
  have C4 := Lib.hid (feed_any p (.slice none 0 0) [] (some ⟨w3.heap.size, 0, none⟩) 3 [0, 1, 65] (S := fun g => g = w3.heap.size) w4 (RSt.new F4.out) (by rw [hw4]; exact bytes_new w3 [0, 1, 65] _ _ (by simp [maxLen])) (by simp) (fun g hg => by rw [hg]; exact ⟨by rw [hw4]; simp, by have := F3.out.lt; omega, (by intro e; cases e)⟩) (by simp))
  have HW4 := Lib.hid hw4
  clear hw4
  go_wp2_with fail
  rw [← HW4.out]
  refine Calls.mono C4.out ?_
  rintro e w5 hR
  obtain ⟨ta, tc, v5, rfl, hf5, hd5⟩ := hR.up
  have F5 := Lib.hid hf5
  have O5 := Lib.hid (O4.out.keep (V := w5) fun g e => hd5.block g (O4.out.lt e).2 (by have := HOP.out g e; omega) (by intro e2; cases e2))
  have B5 := Lib.hid (show Below w.heap.size w w5 from ⟨hd5.os.trans B4.out.os, hd5.tape.trans B4.out.tape, hd5.output.trans B4.out.output, Nat.le_trans B4.out.size hd5.size, fun k hk => (hd5.block k (Nat.lt_of_lt_of_le hk B4.out.size) (by have := HP.out; omega) (by intro e; cases e)).trans (B4.out.block k hk)⟩)
  clear hR hf5 hd5
  obtain ⟨hn2, -, hby⟩ := O5.out.bytes
  have t5 := run_text a2 c2 [0, 1, 65] w5 hby
  rw [← hn2] at t5
  have C5 := Lib.hid (show Calls Try.prog 11 #[.pointer (some ⟨p, 0, none⟩)] w5 fun e w' => e = .returned .nilIface ∧ w5 = w' from end_any p v5 [] false w5 F5.out (by simp))
  clear hn2 hby
  go_wp2_with fail
  refine Calls.mono C5.out ?_
  rintro e w6 ⟨rfl, rfl⟩
  go_wp2_with fail
  go_ret
  exact ⟨rfl, B5.out⟩
end Go.Proofs.Ythoajnpdnagdbaa.Fr
