/-
  Contracts of cover.Box and cover.Same. Memory that was there is left as it was.
-/
import Derived.Test.YtdklmempblidoaaCvBlock
import Derived.Test.YtdklmempblidoaaCvPlain
import Derived.Test.YtdklmempblidoaaMoBox
import Derived.Test.YtdklmempblidoaaRcSubA
namespace Go.Proofs.Ytdklmempblidoaa.Cv
open Go.RowKit Go.Proofs.Ytdklmempblidoaa.Pt Go.Proofs.Ytdklmempblidoaa.Rc Go.Proofs.Ytdklmempblidoaa.Mo
set_option linter.unusedVariables false

theorem fa {W : World} {b : Nat} (o' : Obj) (hlt : b < W.heap.size) (h : ∀ o, W.frozen? ⟨b, o, none⟩ = false) : ∀ o, (W.alloc o').frozen? ⟨b, o, none⟩ = false := fz ((Below.refl _ _).alloc (Nat.le_refl _) _) hlt h
theorem la {W : World} {b : Nat} (o' : Obj) (hlt : b < W.heap.size) : b < (W.alloc o').heap.size := by simp; omega

set_option maxHeartbeats 1000000 in
theorem cbox_no (s x1 y1 x2 y2 : Int) (w : World) (h : (shB s && rmayB x1 y1 x2 y2) = false) : Calls Try.prog 9 #[.int .i64 s, .agg #[.int .i64 x1, .int .i64 y1, .int .i64 x2, .int .i64 y2]] w fun e w' =>
    e = .returned (.tuple #[.agg #[.int .i64 0, .int .i64 0, .int .i64 0, .int .i64 0], .iface 34 (.int .i64 1)]) ∧ Below w.heap.size w w' := by
  have q1 := neq_arg_nil
  have F0 : ∀ o, ((w.alloc (.cells #[.int .i64 x1, .int .i64 y1, .int .i64 x2, .int .i64 y2] 23)).alloc (.cells #[.int .i64 0, .int .i64 0, .int .i64 0, .int .i64 0] 23)).frozen? ⟨w.heap.size + 1, o, none⟩ = false := fun o => by simp
  have K0 := Lib.hid (Kp.adq0 (W := w.alloc (.cells #[.int .i64 x1, .int .i64 y1, .int .i64 x2, .int .i64 y2] 23)) ⟨by simp, (Below.refl w.heap.size w).alloc (Nat.le_refl _) _⟩ (w.heap.size + 1) (by simp) (.int .i64 0) (.int .i64 0) (.int .i64 0) (.int .i64 0) 23)
  go_enter Try.func9, Try.ntmps9
  go_wp2_with fail
  refine (blk_no s x1 y1 x2 y2 _ h).mono ?_
  rintro e w1 ⟨rfl, hb1⟩
  have L1 := Kp.keep4 hb1 K0.out
  have K1 := Kp.adq4 L1 w1.heap.size rfl (.int .i64 0) (.int .i64 0) (.int .i64 0) (.int .i64 0) 50
  have Z1 : w.heap.size + 1 < w1.heap.size := Nat.lt_of_lt_of_le (by simp) hb1.size
  have G1 := fz hb1 (by simp) F0
  have F1 := fa (.cells #[.int .i64 0, .int .i64 0, .int .i64 0, .int .i64 0] 50) Z1 G1
  clear K0 F0 hb1
  go_wp2_with fail
  refine bodyPost_ret (v := .tuple #[.agg #[.int .i64 0, .int .i64 0, .int .i64 0, .int .i64 0], .iface 34 (.int .i64 1)]) (by simp [results, Try.results9, go_sem, *]) rfl ⟨rfl, ?_⟩
  have B := Kp.end4 L1
  exact ((((B.setCell (by simp) _).setCell (by simp) _).setCell (by simp) _).setCell (by simp) _).alloc (by simp; omega) _

theorem box_join {k : Nat} {x1 y1 x2 y2 : Int} (h : rmayB x1 y1 x2 y2 = true) : mn (firI k (colI k x1)) (firI k (colI k x2)) = firI k (colI k x1) ∧ mn (firI k (colI k y1)) (firI k (colI k y2)) = firI k (colI k y1) ∧
    mx (lasI k (colI k x1)) (lasI k (colI k x2)) = lasI k (colI k x2) ∧ mx (lasI k (colI k y1)) (lasI k (colI k y2)) = lasI k (colI k y2) := by
  obtain ⟨a, b, c, d, e, f⟩ := rmayB_bd h
  exact ⟨mn_le (fir_mono (col_mono b)), mn_le (fir_mono (col_mono e)), mx_le (las_mono (col_mono b)), mx_le (las_mono (col_mono e))⟩

set_option maxHeartbeats 2000000 in
set_option maxRecDepth 100000 in
theorem cbox_yes (k : Nat) (x1 y1 x2 y2 : Int) (w : World) (h1 : 24 ≤ k) (h2 : k ≤ 31) (h : rmayB x1 y1 x2 y2 = true) : Calls Try.prog 9 #[.int .i64 k, .agg #[.int .i64 x1, .int .i64 y1, .int .i64 x2, .int .i64 y2]] w fun e w' =>
    e = .returned (.tuple #[.agg #[.int .i64 (firI k (colI k x1)), .int .i64 (firI k (colI k y1)), .int .i64 (lasI k (colI k x2)), .int .i64 (lasI k (colI k y2))], .nilIface]) ∧ Below w.heap.size w w' := by
  have q4 := neq_nil_nil
  obtain ⟨m1, m2⟩ := rmay_two h
  obtain ⟨j1, j2, j3, j4⟩ := box_join (k := k) h
  have C0 := Lib.hid (fun W => blk_yes k x1 y1 x2 y2 W h1 h2 h)
  have C1 := Lib.hid (fun W => box_yes k (colI k x1) (colI k y1) W h1 h2 (col_bel h2 m1).1 (col_bel h2 m1).2)
  have C2 := Lib.hid (fun W => box_yes k (colI k x2) (colI k y2) W h1 h2 (col_bel h2 m2).1 (col_bel h2 m2).2)
  have C3 := Lib.hid (fun W => join_any (firI k (colI k x1)) (firI k (colI k y1)) (lasI k (colI k x1)) (lasI k (colI k y1)) (firI k (colI k x2)) (firI k (colI k y2)) (lasI k (colI k x2)) (lasI k (colI k y2)) W)
  rw [j1, j2, j3, j4] at C3
  clear j1 j2 j3 j4
  obtain ⟨c1, e1⟩ : ∃ c, c = colI k x1 := ⟨_, rfl⟩
  obtain ⟨r1, e2⟩ : ∃ c, c = colI k y1 := ⟨_, rfl⟩
  obtain ⟨c2, e3⟩ : ∃ c, c = colI k x2 := ⟨_, rfl⟩
  obtain ⟨r2, e4⟩ : ∃ c, c = colI k y2 := ⟨_, rfl⟩
  rw [← e1, ← e2, ← e3, ← e4] at C0 C3 ⊢
  rw [← e1, ← e2] at C1
  rw [← e3, ← e4] at C2
  obtain ⟨f1, g1⟩ : ∃ c, c = firI k c1 := ⟨_, rfl⟩
  obtain ⟨f2, g2⟩ : ∃ c, c = firI k r1 := ⟨_, rfl⟩
  obtain ⟨f3, g3⟩ : ∃ c, c = lasI k c1 := ⟨_, rfl⟩
  obtain ⟨f4, g4⟩ : ∃ c, c = lasI k r1 := ⟨_, rfl⟩
  obtain ⟨l1, i1⟩ : ∃ c, c = firI k c2 := ⟨_, rfl⟩
  obtain ⟨l2, i2⟩ : ∃ c, c = firI k r2 := ⟨_, rfl⟩
  obtain ⟨l3, i3⟩ : ∃ c, c = lasI k c2 := ⟨_, rfl⟩
  obtain ⟨l4, i4⟩ : ∃ c, c = lasI k r2 := ⟨_, rfl⟩
  rw [← g1, ← g2, ← g3, ← g4, ← i1, ← i2, ← i3, ← i4] at C3
  rw [← g1, ← g2, ← g3, ← g4] at C1
  rw [← i1, ← i2, ← i3, ← i4] at C2
  rw [← g1, ← g2, ← i3, ← i4]
  clear e1 e2 e3 e4 g1 g2 g3 g4 i1 i2 i3 i4 m1 m2 h
  have F0 : ∀ o, ((w.alloc (.cells #[.int .i64 x1, .int .i64 y1, .int .i64 x2, .int .i64 y2] 23)).alloc (.cells #[.int .i64 0, .int .i64 0, .int .i64 0, .int .i64 0] 23)).frozen? ⟨w.heap.size + 1, o, none⟩ = false := fun o => by simp
  have K0 := Lib.hid (Kp.adq0 (W := w.alloc (.cells #[.int .i64 x1, .int .i64 y1, .int .i64 x2, .int .i64 y2] 23)) ⟨by simp, (Below.refl w.heap.size w).alloc (Nat.le_refl _) _⟩ (w.heap.size + 1) (by simp) (.int .i64 0) (.int .i64 0) (.int .i64 0) (.int .i64 0) 23)
  go_enter Try.func9, Try.ntmps9
  go_wp2_with fail
  refine (C0.out _).mono ?_
  rintro e w1 ⟨rfl, hb1⟩
  have L1 := Kp.keep4 hb1 K0.out
  have K1 := Kp.adq4 L1 w1.heap.size rfl (.int .i64 c1) (.int .i64 r1) (.int .i64 c2) (.int .i64 r2) 50
  have Z1 : w.heap.size + 1 < w1.heap.size := Nat.lt_of_lt_of_le (by simp) hb1.size
  have G1 := fz hb1 (by simp) F0
  have F1 := fa (.cells #[.int .i64 c1, .int .i64 r1, .int .i64 c2, .int .i64 r2] 50) Z1 G1
  have Y1 := la (.cells #[.int .i64 c1, .int .i64 r1, .int .i64 c2, .int .i64 r2] 50) Z1
  clear K0 F0 hb1 Z1
  go_wp2_with fail
  refine (C1.out _).mono ?_
  rintro e w2 ⟨rfl, hb2⟩
  have L2 := Kp.keep8 hb2 K1
  have K2 := Kp.adq8 L2 w2.heap.size rfl (.int .i64 f1) (.int .i64 f2) (.int .i64 f3) (.int .i64 f4) 23
  have Z2 : w.heap.size + 1 < w2.heap.size := Nat.lt_of_lt_of_le Y1 hb2.size
  have G2 := fz hb2 Y1 F1
  have F2 := fa (.cells #[.int .i64 f1, .int .i64 f2, .int .i64 f3, .int .i64 f4] 23) Z2 G2
  have Y2 := la (.cells #[.int .i64 f1, .int .i64 f2, .int .i64 f3, .int .i64 f4] 23) Z2
  clear K1 L1 F1 G1 hb2 Z2 Y1
  go_wp2_with fail
  refine (C2.out _).mono ?_
  rintro e w3 ⟨rfl, hb3⟩
  have L3 := Kp.keep12 hb3 K2
  have K3 := Kp.adq12 L3 w3.heap.size rfl (.int .i64 l1) (.int .i64 l2) (.int .i64 l3) (.int .i64 l4) 23
  have Z3 : w.heap.size + 1 < w3.heap.size := Nat.lt_of_lt_of_le Y2 hb3.size
  have G3 := fz hb3 Y2 F2
  have F3 := fa (.cells #[.int .i64 l1, .int .i64 l2, .int .i64 l3, .int .i64 l4] 23) Z3 G3
  have Y3 := la (.cells #[.int .i64 l1, .int .i64 l2, .int .i64 l3, .int .i64 l4] 23) Z3
  clear K2 L2 F2 G2 hb3 Z3 Y2
  go_wp2_with fail
  refine (C3.out _).mono ?_
  rintro e w4 ⟨rfl, hb4⟩
  have K4 := Kp.keep16 hb4 K3
  have F4 := fz hb4 Y3 F3
  clear K3 L3 F3 G3 hb4 Y3
  go_wp2_with fail
  refine bodyPost_ret (v := .tuple #[.agg #[.int .i64 f1, .int .i64 f2, .int .i64 l3, .int .i64 l4], .nilIface]) (by simp [results, Try.results9, go_sem, *]) rfl ⟨rfl, ?_⟩
  have B := Kp.end16 K4
  exact (((B.setCell (by simp) _).setCell (by simp) _).setCell (by simp) _).setCell (by simp) _
end Go.Proofs.Ytdklmempblidoaa.Cv
