/-
  Contract of cover.Cells: the numbers of a rectangle's cells, rising, or ErrArg. Memory that was there is left as it was.
-/
import Derived.Test.YtkkolodolmppnaaCvCodes
import Derived.Test.YtkkolodolmppnaaSoSort
namespace Go.Proofs.Ytkkolodolmppnaa.Cv
open Go.RowKit Go.Proofs.Ytkkolodolmppnaa.Pt Go.Proofs.Ytkkolodolmppnaa.Rc Go.Proofs.Ytkkolodolmppnaa.So Go.Proofs.Ytkkolodolmppnaa.Mo
set_option linter.unusedVariables false

theorem merge_up (l : List Int) : Up (l.mergeSort fun x y => decide (x ≤ y)) := by
  have := List.pairwise_mergeSort (le := fun (x y : Int) => decide (x ≤ y)) (fun a b c h1 h2 => by simp only [decide_eq_true_eq] at *; omega) (fun a b => by simp only [Bool.or_eq_true, decide_eq_true_eq]; omega) l
  exact this.imp fun h => by simpa using h
theorem su_rd {w W : World} {g cap : Nat} {d : Array Int} {n : Nat} (h : SU w g 0 d W) (hg : g < W.heap.size) (hn : d.size = n) (hc : n ≤ cap) : Rd W W.heap.size (.slice (some ⟨g, 0, none⟩) n cap) d.toList := by
  refine ⟨g, 0, cap, by rw [Array.length_toList, hn], hg, Nat.le_refl _, by rw [Array.length_toList, hn]; exact hc, fun t ht => ?_⟩
  have ht2 : t < d.size := by simpa using ht
  have := h.c t ht2
  rw [getElem!_pos d t ht2] at this
  simpa using this

theorem cells_no (s x1 y1 x2 y2 : Int) (w : World) (h : (shB s && rmayB x1 y1 x2 y2) = false) : Calls Try.prog 19 #[.int .i64 s, .agg #[.int .i64 x1, .int .i64 y1, .int .i64 x2, .int .i64 y2]] w fun e w' =>
    e = .returned (.tuple #[.slice none 0 0, .iface 37 (.int .i64 1)]) ∧ Below w.heap.size w w' := by
  have q1 := neq_arg_nil
  go_enter Try.func19, Try.ntmps19
  go_wp2_with fail
  refine (blk_no s x1 y1 x2 y2 _ h).mono ?_
  rintro e w1 ⟨rfl, hb1⟩
  go_wp2_with fail
  refine bodyPost_ret (v := .tuple #[.slice none 0 0, .iface 37 (.int .i64 1)]) (by simp [results, Try.results19, go_sem]) rfl ⟨rfl, ?_⟩
  exact (((Below.refl w.heap.size w).alloc (Nat.le_refl _) _).trans (hb1.mono (by simp))).alloc (Nat.le_trans (by simp) hb1.size) _

set_option maxHeartbeats 400000 in
theorem cells_yes (k : Nat) (x1 y1 x2 y2 : Int) (c1 r1 c2 r2 : Nat) (w : World) (h1 : 24 ≤ k) (h2 : k ≤ 31) (h : rmayB x1 y1 x2 y2 = true) (e1 : colI k x1 = c1) (e2 : colI k y1 = r1) (e3 : colI k x2 = c2) (e4 : colI k y2 = r2)
    (hc : c1 ≤ c2) (hr : r1 ≤ r2) (hc2 : c2 ≤ 190) (hr2 : r2 ≤ 190) :
    Calls Try.prog 19 #[.int .i64 k, .agg #[.int .i64 x1, .int .i64 y1, .int .i64 x2, .int .i64 y2]] w fun e w' =>
      ∃ (u : Value) (ps ys : List Int), e = .returned (.tuple #[u, .nilIface]) ∧ Cells (fun i j => codeI j i) r1 c1 r2 c2 ps ∧ ys.Perm ps ∧ Up ys ∧ Rd w' w'.heap.size u ys ∧ Below w.heap.size w w' := by
  have q4 := neq_nil_nil
  have C1 := fun W => blk_yes k x1 y1 x2 y2 W h1 h2 h
  rw [e1, e2, e3, e4] at C1
  clear e1 e2 e3 e4 h h1 h2
  go_enter Try.func19, Try.ntmps19
  go_wp2_with fail
  refine (C1 _).mono ?_
  rintro e w1 ⟨rfl, hb1⟩
  have B1 := Lib.hid ((((Below.refl w.heap.size w).alloc (Nat.le_refl _) _).trans (hb1.mono (by simp))).alloc (Nat.le_trans (by simp) hb1.size) (.cells #[.int .i64 c1, .int .i64 r1, .int .i64 c2, .int .i64 r2] 66))
  have Z1 : w.heap.size ≤ (w1.alloc (.cells #[.int .i64 c1, .int .i64 r1, .int .i64 c2, .int .i64 r2] 66)).heap.size := by have := hb1.size; simp at this ⊢; omega
  clear hb1 C1
  go_wp2_with fail
  refine (codes_any c1 r1 c2 r2 _ hc hr hc2 hr2).mono ?_
  rintro e w2 ⟨u, ps, rfl, hps, hown, hb2⟩
  have hlen := hps.2.2
  have h0 : 0 < ps.length := by
    rw [hlen]
    exact Nat.mul_pos (by omega) (by omega)
  have hmax : ps.length ≤ 191 * 191 := by
    rw [hlen]
    exact Nat.mul_le_mul (by omega) (by omega)
  obtain ⟨g, cap, rfl, hg1, hg2, hcap, hHU⟩ := own_hu hown h0
  have B2 := Lib.hid (B1.out.trans (hb2.mono Z1))
  have Z2 := Nat.le_trans Z1 hb2.size
  obtain ⟨n, hn⟩ : ∃ n, n = ps.length := ⟨_, rfl⟩
  have hsc := sort_any g 0 cap n ps.toArray (by rw [hn]; simp) w2 hHU hg2 (by omega)
  have HP := Lib.hid hps
  rw [← hn] at hcap ⊢
  clear hHU hown hlen hps h0 hmax hn hb2
  go_wp2_with fail
  refine hsc.mono ?_
  rintro e w3 ⟨d', rfl, hd, hsort, hSU⟩
  have HD := Lib.hid hd
  have HT := Lib.hid hsort
  have HU3 := Lib.hid hSU
  clear hd hsort hSU hsc
  go_wp2_with fail
  refine bodyPost_ret (v := .tuple #[.slice (some ⟨g, 0, none⟩) n cap, .nilIface]) (by simp [results, Try.results19, go_sem]) rfl ⟨_, ps, d'.toList, rfl, HP.out, ?_, ?_, su_rd HU3.out (Nat.lt_of_lt_of_le hg2 HU3.out.2.size) HD.out hcap, ?_⟩
  · rw [HT.out]; exact List.mergeSort_perm _ _
  · rw [HT.out]; exact merge_up _
  · exact B2.out.grown HU3.out.2 Z2 fun q hq => by simp at hq; omega
end Go.Proofs.Ytkkolodolmppnaa.Cv
