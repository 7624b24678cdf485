/-
  Contracts of Twice of layer 3 (poly) and of its document's answer, for a list of 1 to 70 points that may be. Memory that was there is left as it was.
-/
import Derived.Test.YtoijgppkpagelaaPlTurns
import Derived.Test.YtoijgppkpagelaaKeepR
namespace Go.Proofs.Ytoijgppkpagelaa.Pl
open Go.RowKit Go.Proofs.Ytoijgppkpagelaa.Pt Go.Proofs.Ytoijgppkpagelaa.Rc Go.Proofs.Ytoijgppkpagelaa.Pts
set_option linter.unusedVariables false

theorem run_mn64 (P : Program) (ts : Array TypeId) (t : TypeId) (x y : Int) (W : World) : (Builtin.min_ ts t #[.int .u64 x, .int .u64 y]).run P W = .ok (.int .u64 (mn x y)) W := run_min_int2 W ts t .u64 .u64 x y
def SumRel (w : World) (l : List Pnt) (f : Nat → Int) (s i : Value) (wr : World) : Prop := ∃ k : Nat, k ≤ l.length ∧ s = .int .u64 (f k % 18446744073709551616) ∧ i = .int .i64 k ∧ Below w.heap.size w wr
theorem may_bd {p : Pnt} (h : pmay p = true) : (-1073741824 ≤ p.1 ∧ p.1 ≤ 1073741824) ∧ (-1073741824 ≤ p.2 ∧ p.2 ≤ 1073741824) := by
  obtain ⟨h1, h2⟩ := mayB_iff.1 h
  exact ⟨inR_iff.1 h1, inR_iff.1 h2⟩
theorem mul_bd30 {x y : Int} (hx1 : -1073741824 ≤ x) (hx2 : x ≤ 1073741824) (hy1 : -1073741824 ≤ y) (hy2 : y ≤ 1073741824) : -1152921504606846976 ≤ x * y ∧ x * y ≤ 1152921504606846976 := by
  have h : (x * y).natAbs ≤ 1073741824 * 1073741824 := by
    rw [Int.natAbs_mul]
    exact Nat.mul_le_mul (by omega) (by omega)
  omega
theorem step_bd (s : Int) : 0 ≤ s % 18446744073709551616 ∧ s % 18446744073709551616 < 18446744073709551616 := by omega

set_option maxHeartbeats 1000000 in
theorem twice_any (l : List Pnt) (A : Option Addr) (c : Nat) (w : World) (hA : PtsAt w w.heap.size A l) (h0 : 0 < l.length) (hn : l.length ≤ 70) (hm : l.all pmay = true) :
    Calls Try.prog 12 #[.slice A l.length c] w fun e w' => e = .returned (.int .u64 (twiceL l)) ∧ Below w.heap.size w w' := by
  have M := Lib.hid (fun i => all_any hm h0 i)
  have C := Lib.hid (fun j W (h : Below w.heap.size w W) (hj : 0 ≤ j) => at_any l A c j W ((hA.later h).wide h.size) h0 hn hj)
  have TC := Lib.hid (twiceL_code l)
  obtain ⟨b, off, rfl, hb, hc⟩ := hA (by intro h; subst h; simp at h0)
  have HC := Lib.hid hc
  obtain ⟨n, e⟩ : ∃ n, n = l.length := ⟨_, rfl⟩
  rw [← e] at hn h0 C TC ⊢
  have E := Lib.hid e
  clear e hA hm hc
  have hmn := run_mn64 Try.prog
  go_enter Try.func12, Try.ntmps12
  go_wp2_with fail
  go_loopw [3, 9] (fun s i wr => SumRel w l (fun k => area0 k (at_ l)) s i wr) (fun _ i _ => n - (intOf i).toNat)
  case atStart => exact ⟨0, Nat.zero_le _, rfl, rfl, Below.refl _ _⟩
  case round =>
    obtain ⟨k, hk, hs, rfl, hB⟩ := hrel
    subst hs
    obtain ⟨s, hs⟩ : ∃ s, s = area0 k (at_ l) % 18446744073709551616 := ⟨_, rfl⟩
    have hs0 : 0 ≤ s ∧ s < 18446744073709551616 := by rw [hs]; exact step_bd _
    obtain ⟨_, _⟩ := hs0
    simp only [← hs]
    by_cases hlt : k < n
    · have hkl : k < l.length := by rw [← E.out]; exact hlt
      obtain ⟨a, ha⟩ : ∃ a, a = at_ l (k : Int) := ⟨_, rfl⟩
      obtain ⟨q, hq⟩ : ∃ q, q = at_ l ((k : Int) + 1) := ⟨_, rfl⟩
      have c1 : wr.cell? ⟨b, off + k * 2, none⟩ = some (.int .i64 a.1) := by rw [ha, at_nat hkl]; exact (hB.cell (p := ⟨b, off + k * 2, none⟩) hb).trans (HC.out k hkl).1
      have c2 : wr.cell? ⟨b, off + k * 2 + 1, none⟩ = some (.int .i64 a.2) := by rw [ha, at_nat hkl]; exact (hB.cell (p := ⟨b, off + k * 2 + 1, none⟩) hb).trans (HC.out k hkl).2
      have m1 := may_bd (show pmay a = true by rw [ha]; exact M.out _)
      have m2 := may_bd (show pmay q = true by rw [hq]; exact M.out _)
      have y1 := mul_bd30 (x := a.1) (y := q.2) (by omega) (by omega) (by omega) (by omega)
      have y2 := mul_bd30 (x := a.2) (y := q.1) (by omega) (by omega) (by omega) (by omega)
      have D1 := Lib.hid (fun W h => C.out ((k : Int) + 1) W h (by omega))
      rw [← hq] at D1
      obtain ⟨u, hu⟩ : ∃ u, u = a.1 * q.2 := ⟨_, rfl⟩
      obtain ⟨t, ht⟩ : ∃ t, t = a.2 * q.1 := ⟨_, rfl⟩
      have x1 := IntWalk.i64_in (a.1 * q.2) (by omega)
      have x2 := IntWalk.i64_in (a.2 * q.1) (by omega)
      have x3 := IntWalk.i64_in (a.1 * q.2 - a.2 * q.1) (by omega)
      obtain ⟨d, hd⟩ : ∃ d, d = (a.1 * q.2 - a.2 * q.1) % 18446744073709551616 := ⟨_, rfl⟩
      obtain ⟨z, hz⟩ : ∃ z, z = area0 (k + 1) (at_ l) % 18446744073709551616 := ⟨_, rfl⟩
      have x4 : IntKind.u64.wrap (a.1 * q.2 - a.2 * q.1) = d := by rw [IntKind.wrap_u64, hd]
      have x5 : IntKind.u64.wrap (s + d) = z := by
        rw [IntKind.wrap_u64, hz, area0_succ, hs, hd, ← ha, ← hq]
        unfold crs0
        omega
      have HZ := Lib.hid hz
      clear ha hq C hu ht hd hz hs y1 y2 m1 m2 u t
      have hk0 : (0 : Int) ≤ (k : Int) := by omega
      have hk1 : (k : Int) < (n : Int) := by omega
      have K0 := Lib.hid (Kp.add0 ⟨hB.size, hB⟩ wr.heap.size rfl (.int .i64 a.1) (.int .i64 a.2) 24)
      go_wp2_with fail
      refine (D1.out _ (Kp.end2 K0.out)).mono ?_
      rintro e w1 ⟨rfl, hb1⟩
      have K1 := Kp.add2 (Kp.keep2 hb1 K0.out) w1.heap.size rfl (.int .i64 q.1) (.int .i64 q.2) 24
      have zz := hb1.size
      clear hb1 D1 K0
      go_wp2_with fail
      go_roundw
      case rel => exact ⟨k + 1, by omega, by show _ = Value.int .u64 (area0 (k + 1) (at_ l) % 18446744073709551616); rw [← HZ.out], by go_num, Kp.end4 K1⟩
      case measure => simp [intOf]; omega
    · have hkn : k = n := by have := E.out; omega
      have HT : Hid (twiceL l = mn s ((-s) % 18446744073709551616)) := Lib.hid (by rw [TC.out, hs, hkn])
      obtain ⟨t, ht⟩ : ∃ t, t = (-s) % 18446744073709551616 := ⟨_, rfl⟩
      have x1 : IntKind.u64.wrap (-s) = t := by rw [IntKind.wrap_u64, ht]
      rw [← ht] at HT
      clear hkn hs ht
      go_wp2_with fail
      rw [HT.out]
      go_ret
      exact ⟨rfl, hB⟩

set_option maxHeartbeats 1000000 in
theorem refTwice_any (l : List Pnt) (A : Option Addr) (c : Nat) (w : World) (hA : PtsAt w w.heap.size A l) (h0 : 0 < l.length) (hn : l.length ≤ 70) (hm : l.all pmay = true) :
    Calls Try.prog 13 #[.slice A l.length c] w fun e w' => e = .returned (.int .u64 (twiceL l)) ∧ Below w.heap.size w w' := by
  have M := Lib.hid (fun i => all_any hm h0 i)
  have HA := Lib.hid hA
  obtain ⟨b, off, rfl, hb, hc⟩ := hA (by intro h; subst h; simp at h0)
  have HC := Lib.hid hc
  obtain ⟨n, e⟩ : ∃ n, n = l.length := ⟨_, rfl⟩
  have H0 := Lib.hid h0
  rw [← e] at hn h0 ⊢
  have E := Lib.hid e
  clear e hA hm hc
  go_enter Try.func13, Try.ntmps13
  go_wp2_with fail
  go_loopw [3, 4] (fun s i wr => SumRel w l (fun k => areaS k (at_ l)) s i wr) (fun _ i _ => n - (intOf i).toNat)
  case atStart => exact ⟨0, Nat.zero_le _, rfl, rfl, Below.refl _ _⟩
  case round =>
    obtain ⟨k, hk, hs, rfl, hB⟩ := hrel
    subst hs
    obtain ⟨s, hs⟩ : ∃ s, s = areaS k (at_ l) % 18446744073709551616 := ⟨_, rfl⟩
    have hs0 : 0 ≤ s ∧ s < 18446744073709551616 := by rw [hs]; exact step_bd _
    obtain ⟨_, _⟩ := hs0
    simp only [← hs]
    by_cases hlt : k < n
    · have hkl : k < l.length := by rw [← E.out]; exact hlt
      obtain ⟨b2, off2, r, qx, qy, eA, _, hr, hrl, hX, hY, c3, c4⟩ := at_cell (HA.out.later hB) H0.out ((k : Int) + 1) (by omega)
      simp at eA
      obtain ⟨rfl, rfl⟩ := eA
      obtain ⟨a, ha⟩ : ∃ a, a = at_ l (k : Int) := ⟨_, rfl⟩
      have c1 : wr.cell? ⟨b, off + k * 2, none⟩ = some (.int .i64 a.1) := by rw [ha, at_nat hkl]; exact (hB.cell (p := ⟨b, off + k * 2, none⟩) hb).trans (HC.out k hkl).1
      have c2 : wr.cell? ⟨b, off + k * 2 + 1, none⟩ = some (.int .i64 a.2) := by rw [ha, at_nat hkl]; exact (hB.cell (p := ⟨b, off + k * 2 + 1, none⟩) hb).trans (HC.out k hkl).2
      have m1 := may_bd (show pmay a = true by rw [ha]; exact M.out _)
      have m2 := may_bd (M.out ((k : Int) + 1))
      rw [← hX, ← hY] at m2
      obtain ⟨ax, hax⟩ : ∃ ax, ax = a.1 := ⟨_, rfl⟩
      obtain ⟨ay, hay⟩ : ∃ ay, ay = a.2 := ⟨_, rfl⟩
      rw [← hax] at c1 m1
      rw [← hay] at c2 m1
      have y1 := mul_bd (x := ax + 1073741824) (y := qy + 1073741824) (by omega) (by omega) (by omega) (by omega)
      have y2 := mul_bd (x := ay + 1073741824) (y := qx + 1073741824) (by omega) (by omega) (by omega) (by omega)
      have x1 := IntWalk.i64_in ((ax + 1073741824) * (qy + 1073741824)) (by omega)
      have x2 := IntWalk.i64_in ((ay + 1073741824) * (qx + 1073741824)) (by omega)
      obtain ⟨d1, hd1⟩ : ∃ d, d = ((ax + 1073741824) * (qy + 1073741824)) % 18446744073709551616 := ⟨_, rfl⟩
      obtain ⟨d2, hd2⟩ : ∃ d, d = ((ay + 1073741824) * (qx + 1073741824)) % 18446744073709551616 := ⟨_, rfl⟩
      obtain ⟨f, hf⟩ : ∃ f, f = (s + d1) % 18446744073709551616 := ⟨_, rfl⟩
      obtain ⟨z, hz⟩ : ∃ z, z = areaS (k + 1) (at_ l) % 18446744073709551616 := ⟨_, rfl⟩
      have x3 : IntKind.u64.wrap ((ax + 1073741824) * (qy + 1073741824)) = d1 := by rw [IntKind.wrap_u64, hd1]
      have x4 : IntKind.u64.wrap ((ay + 1073741824) * (qx + 1073741824)) = d2 := by rw [IntKind.wrap_u64, hd2]
      have x5 : IntKind.u64.wrap (s + d1) = f := by rw [IntKind.wrap_u64, hf]
      have x6 : IntKind.u64.wrap (f - d2) = z := by
        rw [IntKind.wrap_u64, hz, areaS_succ, hf, hs, hd1, hd2]
        unfold crs
        rw [← ha, ← hX, ← hY, ← hax, ← hay]
        omega
      have HZ := Lib.hid hz
      obtain ⟨⟨_, _⟩, ⟨_, _⟩⟩ := m1
      obtain ⟨⟨_, _⟩, ⟨_, _⟩⟩ := m2
      have hn0 : (0 : Int) < (n : Int) := by omega
      have hk0 : (0 : Int) ≤ (k : Int) := by omega
      have hk1 : (k : Int) < (n : Int) := by omega
      have hr0 : (0 : Int) ≤ (r : Int) := by omega
      rw [← E.out] at hr hrl
      have hr1 : (r : Int) < (n : Int) := by omega
      have b1 : Below wr.heap.size wr (wr.alloc (.cells #[.int .i64 ax, .int .i64 ay] 24)) := (Below.refl _ _).alloc (Nat.le_refl _) _
      have c5 := cell_later b1 c3
      have c6 := cell_later b1 c4
      clear ha hX hY hax hay hd1 hd2 hf hz hs y1 y2 b1
      go_wp2_with fail
      go_roundw
      case rel => exact ⟨k + 1, by omega, by show _ = Value.int .u64 (areaS (k + 1) (at_ l) % 18446744073709551616); rw [← HZ.out], by go_num, (hB.alloc hB.size _).alloc (by have := hB.size; simp; omega) _⟩
      case measure => simp [intOf]; omega
    · have hkn : k = n := by have := E.out; omega
      have HT : Hid (twiceL l = if 9223372036854775808 < s then 18446744073709551616 - s else s) := Lib.hid (by unfold twiceL twiceI; rw [hs, hkn, E.out])
      clear hkn hs
      by_cases hbig : 9223372036854775808 < s
      · rw [if_pos hbig] at HT
        go_wp2_with fail
        rw [HT.out]
        go_ret
        exact ⟨by simp; omega, hB⟩
      · rw [if_neg hbig] at HT
        go_wp2_with fail
        rw [HT.out]
        go_ret
        exact ⟨rfl, hB⟩
end Go.Proofs.Ytoijgppkpagelaa.Pl
