/-
  Contract of name of package token: the name, or the word, that a text begins with. Memory that was there is left as it was.
-/
import Derived.Test.YtmjlfmoaoobmnaaDoorTkRow
import Derived.Test.YtmjlfmoaoobmnaaDoorTkKit
namespace Go.Proofs.YtmjlfmoaoobmnaaDoor.Tk
open Go.RowKit
set_option linter.unusedVariables false
set_option linter.unusedSimpArgs false

set_option maxHeartbeats 1000000 in
theorem name_any (s : ByteArray) (hs : s.size ≤ 1048576) (w : World) : Calls Tryd.prog 15 #[.string s] w fun e w' => e = .returned (lexV 37 (nameL s.data.toList)) ∧ Below w.heap.size w w' := by
  have C := Lib.hid (fun W => rowName_any s hs W)
  have HS := Lib.hid (Lib.size_eq s)
  obtain ⟨k, hk⟩ : ∃ k, run nmB s.data.toList = k := ⟨_, rfl⟩
  have hkl : (k : Int) ≤ (s.size : Int) := by have := run_le nmB s.data.toList; have := HS.out; omega
  rw [hk] at C
  have K0 := Lib.hid (Blk.new w (.int .i64 0) (.int .i64 0) (.int .i64 0) (.string ⟨#[]⟩) 36)
  have B0 := Lib.hid ((Below.refl w.heap.size w).alloc (Nat.le_refl _) (.cells #[.int .i64 0, .int .i64 0, .int .i64 0, .string ⟨#[]⟩] 36))
  have HK := Lib.hid hk
  clear hk
  by_cases h20 : k ≤ 20
  · have hz : (k : Int) ≤ 20 := by omega
    obtain ⟨b, hb⟩ : ∃ b, wordB (s.extract 0 k).data.toList = b := ⟨_, rfl⟩
    have HB := Lib.hid hb
    clear hb
    have HR := Lib.hid (show nameL s.data.toList = some ⟨if b then 2 else 1, 0, s.data.toList.take k, k⟩ by
      unfold nameL
      rw [HK.out, if_pos h20, ← HB.out, take_data])
    cases b
    all_goals
      go_enter Tryd.func15, Tryd.ntmps15
      go_wp2_with fail
      refine (C.out _).mono ?_
      rintro e w1 ⟨rfl, rfl⟩
      go_wp2_with fail
      refine (word_any _ _).mono ?_
      rintro e w1 ⟨rfl, rfl⟩
      rw [HB.out]
      go_wp2_with fail
      rw [HR.out]
      refine bodyPost_ret (v := lexV 37 _) (by simp [results, Tryd.results15, go_sem, lexV, take_extract]) rfl ⟨rfl, ?_⟩
      exact (Below.refl _ _).alloc (Nat.le_refl _) _
  · have hz : ¬ (k : Int) ≤ 20 := by omega
    have HR := Lib.hid (show nameL s.data.toList = none by
      unfold nameL
      rw [HK.out, if_neg h20])
    go_enter Tryd.func15, Tryd.ntmps15
    go_wp2_with fail
    refine (C.out _).mono ?_
    rintro e w1 ⟨rfl, rfl⟩
    go_wp2_with fail
    refine (amiss_any _).mono ?_
    rintro e w2 ⟨rfl, hb2⟩
    have K2 := K0.out.later hb2
    have B2 := Lib.hid (B0.out.trans (hb2.mono (by simp)))
    obtain ⟨c0, c1, c2, c3, cf, cl⟩ := K2
    clear hb2
    unfold noTok
    go_wp2_with fail
    rw [HR.out]
    refine bodyPost_ret (v := lexV 37 none) (by simp [results, Tryd.results15, go_sem, lexV, *]) rfl ⟨rfl, ?_⟩
    exact set4 B2.out (Nat.le_refl _) _ _ _ _
end Go.Proofs.YtmjlfmoaoobmnaaDoor.Tk
