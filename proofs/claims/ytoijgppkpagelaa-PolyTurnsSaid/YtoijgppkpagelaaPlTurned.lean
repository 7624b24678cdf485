/-
  The walk of the statement PolyTurns: whatever points and number it is given, it returns true, and memory that was there is left as it was.
-/
import Derived.Test.YtoijgppkpagelaaPlUp
import Derived.Test.YtoijgppkpagelaaPlMoves
import Derived.Test.YtoijgppkpagelaaPlOwn
import Derived.Test.YtoijgppkpagelaaRcRefOf
namespace Go.Proofs.Ytoijgppkpagelaa.Pl
open Go.RowKit Go.Proofs.Ytoijgppkpagelaa.Pt Go.Proofs.Ytoijgppkpagelaa.Rc Go.Proofs.Ytoijgppkpagelaa.Pts
set_option linter.unusedVariables false

set_option maxRecDepth 100000 in
set_option maxHeartbeats 1000000 in
theorem turned_far (l : List Pnt) (A : Option Addr) (n c : Nat) (p d : Pnt) (f : Int) (w : World) (h : 64 < n) (hn : n ≤ maxLen) (x : Bool) (hp : mayB p.1 p.2 = x) :
    Calls Try.prog 5 #[.slice A n c, .agg #[.int .i64 p.1, .int .i64 p.2], .agg #[.int .i64 d.1, .int .i64 d.2], .int .i64 f] w fun e w' => e = .returned (.bool true) ∧ Below w.heap.size w w' := by
  unfold maxLen at hn
  have h1 : (64 : Int) < (n : Int) := by omega
  have PM := Lib.hid (show mayB p.1 p.2 = x from hp)
  have L := Lib.hid (Kp.add2 (Kp.add0 ⟨Nat.le_refl _, Below.refl w.heap.size w⟩ w.heap.size rfl (.int .i64 p.1) (.int .i64 p.2) 24) (w.heap.size + 1) (by simp) (.int .i64 d.1) (.int .i64 d.2) 24)
  go_enter Try.func5, Try.ntmps5
  go_wp2_with fail
  refine (up_any _).mono ?_
  rintro e w1 ⟨rfl, hb1⟩
  have K1 := Kp.keep4 hb1 L.out
  clear hb1 L
  go_wp2_with fail
  refine (refMay_any _ _ _).mono ?_
  rintro e w2 ⟨rfl, hb2⟩
  have K2 := Kp.keep4 hb2 K1
  clear hb2 K1
  rw [PM.out]
  go_wp2_with fail
  go_ret
  exact ⟨rfl, Kp.end4 K2⟩

set_option maxRecDepth 100000 in
set_option maxHeartbeats 1000000 in
theorem turned_may (l : List Pnt) (A : Option Addr) (n c : Nat) (p d : Pnt) (f : Int) (w : World) (hn : n ≤ 64) (hp : mayB p.1 p.2 = false) :
    Calls Try.prog 5 #[.slice A n c, .agg #[.int .i64 p.1, .int .i64 p.2], .agg #[.int .i64 d.1, .int .i64 d.2], .int .i64 f] w fun e w' => e = .returned (.bool true) ∧ Below w.heap.size w w' := by
  have h1 : (n : Int) ≤ 64 := by omega
  have PM := Lib.hid (show mayB p.1 p.2 = false from hp)
  have L := Lib.hid (Kp.add2 (Kp.add0 ⟨Nat.le_refl _, Below.refl w.heap.size w⟩ w.heap.size rfl (.int .i64 p.1) (.int .i64 p.2) 24) (w.heap.size + 1) (by simp) (.int .i64 d.1) (.int .i64 d.2) 24)
  go_enter Try.func5, Try.ntmps5
  go_wp2_with fail
  refine (up_any _).mono ?_
  rintro e w1 ⟨rfl, hb1⟩
  have K1 := Kp.keep4 hb1 L.out
  clear hb1 L
  go_wp2_with fail
  refine (refMay_any _ _ _).mono ?_
  rintro e w2 ⟨rfl, hb2⟩
  have K2 := Kp.keep4 hb2 K1
  clear hb2 K1
  rw [PM.out]
  go_wp2_with fail
  go_ret
  exact ⟨rfl, Kp.end4 K2⟩

set_option maxRecDepth 100000 in
set_option maxHeartbeats 1000000 in
theorem turned_low (l : List Pnt) (A : Option Addr) (n c : Nat) (p d : Pnt) (f : Int) (w : World) (hn : n ≤ 64) (hp : mayB p.1 p.2 = true) (hf : f < 0) :
    Calls Try.prog 5 #[.slice A n c, .agg #[.int .i64 p.1, .int .i64 p.2], .agg #[.int .i64 d.1, .int .i64 d.2], .int .i64 f] w fun e w' => e = .returned (.bool true) ∧ Below w.heap.size w w' := by
  have h1 : (n : Int) ≤ 64 := by omega
  have PM := Lib.hid (show mayB p.1 p.2 = true from hp)
  have L := Lib.hid (Kp.add2 (Kp.add0 ⟨Nat.le_refl _, Below.refl w.heap.size w⟩ w.heap.size rfl (.int .i64 p.1) (.int .i64 p.2) 24) (w.heap.size + 1) (by simp) (.int .i64 d.1) (.int .i64 d.2) 24)
  go_enter Try.func5, Try.ntmps5
  go_wp2_with fail
  refine (up_any _).mono ?_
  rintro e w1 ⟨rfl, hb1⟩
  have K1 := Kp.keep4 hb1 L.out
  clear hb1 L
  go_wp2_with fail
  refine (refMay_any _ _ _).mono ?_
  rintro e w2 ⟨rfl, hb2⟩
  have K2 := Kp.keep4 hb2 K1
  clear hb2 K1
  rw [PM.out]
  go_wp2_with fail
  go_ret
  exact ⟨rfl, Kp.end4 K2⟩

set_option maxRecDepth 100000 in
set_option maxHeartbeats 1000000 in
theorem turned_high (l : List Pnt) (A : Option Addr) (n c : Nat) (p d : Pnt) (f : Int) (w : World) (hn : n ≤ 64) (hp : mayB p.1 p.2 = true) (hf : 100 < f) :
    Calls Try.prog 5 #[.slice A n c, .agg #[.int .i64 p.1, .int .i64 p.2], .agg #[.int .i64 d.1, .int .i64 d.2], .int .i64 f] w fun e w' => e = .returned (.bool true) ∧ Below w.heap.size w w' := by
  have h1 : (n : Int) ≤ 64 := by omega
  have h2 : 0 ≤ f := by omega
  have PM := Lib.hid (show mayB p.1 p.2 = true from hp)
  have L := Lib.hid (Kp.add2 (Kp.add0 ⟨Nat.le_refl _, Below.refl w.heap.size w⟩ w.heap.size rfl (.int .i64 p.1) (.int .i64 p.2) 24) (w.heap.size + 1) (by simp) (.int .i64 d.1) (.int .i64 d.2) 24)
  go_enter Try.func5, Try.ntmps5
  go_wp2_with fail
  refine (up_any _).mono ?_
  rintro e w1 ⟨rfl, hb1⟩
  have K1 := Kp.keep4 hb1 L.out
  clear hb1 L
  go_wp2_with fail
  refine (refMay_any _ _ _).mono ?_
  rintro e w2 ⟨rfl, hb2⟩
  have K2 := Kp.keep4 hb2 K1
  clear hb2 K1
  rw [PM.out]
  go_wp2_with fail
  go_ret
  exact ⟨rfl, Kp.end4 K2⟩

set_option maxRecDepth 100000 in
set_option maxHeartbeats 1000000 in
theorem turned_not (l : List Pnt) (A : Option Addr) (n c : Nat) (p d : Pnt) (f : Int) (w : World) (hA : PtsAt w w.heap.size A l) (el : n = l.length) (hn : n ≤ 64) (hp : mayB p.1 p.2 = true) (hf0 : 0 ≤ f) (hf : f ≤ 100) (hs : simpleB l = false) :
    Calls Try.prog 5 #[.slice A n c, .agg #[.int .i64 p.1, .int .i64 p.2], .agg #[.int .i64 d.1, .int .i64 d.2], .int .i64 f] w fun e w' => e = .returned (.bool true) ∧ Below w.heap.size w w' := by
  have C1 := Lib.hid (fun W (h : Below w.heap.size w W) => simple_any l A c W ((hA.later h).wide h.size) (by omega))
  rw [hs, ← el] at C1
  clear hA hs el
  have h1 : (n : Int) ≤ 64 := by omega
  have PM := Lib.hid (show mayB p.1 p.2 = true from hp)
  have L := Lib.hid (Kp.add2 (Kp.add0 ⟨Nat.le_refl _, Below.refl w.heap.size w⟩ w.heap.size rfl (.int .i64 p.1) (.int .i64 p.2) 24) (w.heap.size + 1) (by simp) (.int .i64 d.1) (.int .i64 d.2) 24)
  go_enter Try.func5, Try.ntmps5
  go_wp2_with fail
  refine (up_any _).mono ?_
  rintro e w1 ⟨rfl, hb1⟩
  have K1 := Kp.keep4 hb1 L.out
  clear hb1 L
  go_wp2_with fail
  refine (refMay_any _ _ _).mono ?_
  rintro e w2 ⟨rfl, hb2⟩
  have K2 := Kp.keep4 hb2 K1
  clear hb2 K1
  rw [PM.out]
  go_wp2_with fail
  refine (C1.out _ (Kp.end4 K2)).mono ?_
  rintro e w3 ⟨rfl, hb3⟩
  have K3 := Kp.keep4 hb3 K2
  clear hb3 K2
  go_wp2_with fail
  go_ret
  exact ⟨rfl, Kp.end4 K3⟩

def TurnRel (v : World) (l : List Pnt) (m : Nat) (t r i : Value) (wr : World) : Prop := ∃ k : Nat, k ≤ l.length ∧ i = .int .i64 k ∧ Pair wr v.heap.size 24 t r (turnedL l m k) (roundL l k) ∧ Below v.heap.size v wr

set_option maxRecDepth 100000 in
set_option maxHeartbeats 8000000 in
theorem turned_main (l : List Pnt) (A : Option Addr) (c : Nat) (p d : Pnt) (m : Nat) (w : World) (hA : PtsAt w w.heap.size A l) (hs : simpleB l = true) (hp : mayB p.1 p.2 = true) (hm100 : m ≤ 100) :
    Calls Try.prog 5 #[.slice A l.length c, .agg #[.int .i64 p.1, .int .i64 p.2], .agg #[.int .i64 d.1, .int .i64 d.2], .int .i64 (m : Int)] w fun e w' => e = .returned (.bool true) ∧ Below w.heap.size w w' := by
  obtain ⟨hm, h3, hn⟩ := simpleB_all hs
  have h0 : 0 < l.length := by omega
  have C1 := Lib.hid (fun W (h : Below w.heap.size w W) => simple_any l A c W ((hA.later h).wide h.size) (by omega))
  have C2 := Lib.hid (fun W (h : Below w.heap.size w W) => polyIn_any l A c p W ((hA.later h).wide h.size) h0 (by omega) hm hp)
  have C3 := Lib.hid (fun W (h : Below w.heap.size w W) => refOf_any l A c W ((hA.later h).wide h.size) (by omega))
  have C4 := Lib.hid (fun W (h : Below w.heap.size w W) => twice_any l A c W ((hA.later h).wide h.size) h0 (by omega) hm)
  have C5 := Lib.hid (fun W (h : Below w.heap.size w W) => move_some l A c d W ((hA.later h).wide h.size) hs)
  have CI := Lib.hid (fun (a : Pnt) (ha : a ∈ l) W (h : Below w.heap.size w W) => (show Calls Try.prog 10 #[.slice A l.length c, .agg #[.int .i64 a.1, .int .i64 a.2]] W fun e w' => e = .returned (.bool true) ∧ Below W.heap.size W w' by
    have := polyIn_any l A c a W ((hA.later h).wide h.size) h0 (by omega) hm (List.all_eq_true.1 hm _ ha)
    obtain ⟨k, hk, rfl⟩ := List.getElem_of_mem ha
    rw [vertex_in hk] at this
    exact this))
  have TF := Lib.hid (turned_facts hs m p)
  have RF := Lib.hid (round_facts hs p)
  have MF := Lib.hid (moved_facts hs d p)
  have ho : ofB l = true := by unfold ofB; rw [hm]; cases l; simp at h0; rfl
  rw [hs] at C1
  rw [ho] at C3
  obtain ⟨r, hr⟩ : ∃ r, r = ofR l := ⟨_, rfl⟩
  have X := Lib.hid (show insB l p = true → inB r.x1 r.y1 r.x2 r.y2 p.1 p.2 = true by rw [hr]; exact fun h => ins_box hm h0 h)
  rw [← hr] at C3
  obtain ⟨tw, htw⟩ : ∃ tw, tw = twiceL l := ⟨_, rfl⟩
  rw [← htw] at C4 TF RF MF
  have HA := Lib.hid hA
  obtain ⟨b, off, rfl, hbb, hc⟩ := hA (by intro h; subst h; simp at h0)
  have HC := Lib.hid hc
  have H0 := Lib.hid h0
  obtain ⟨n, e⟩ : ∃ n, n = l.length := ⟨_, rfl⟩
  rw [← e] at h3 hn h0 C1 C2 C3 C4 C5 CI ⊢
  have E := Lib.hid e
  clear e hA hs hm hc ho hr htw
  obtain ⟨i0, hi, hz0, hz1, hz2⟩ := info_parts A.infoPt
  have n1 := neq_range
  have n2 := neq_nil
  have h1 : (n : Int) ≤ 64 := by omega
  have hn0 : (0 : Int) < (n : Int) := by omega
  have hnz : ¬ n = 0 := by omega
  have hf0 : (0 : Int) ≤ (m : Int) := by omega
  have hf1 : (m : Int) ≤ 100 := by omega
  have L := Lib.hid (Kp.add2 (Kp.add0 ⟨Nat.le_refl _, Below.refl w.heap.size w⟩ w.heap.size rfl (.int .i64 p.1) (.int .i64 p.2) 24) (w.heap.size + 1) (by simp) (.int .i64 d.1) (.int .i64 d.2) 24)
  go_enter Try.func5, Try.ntmps5
  go_wp2_with fail
  refine (up_any _).mono ?_
  rintro e w1 ⟨rfl, hb1⟩
  have K1 := Kp.keep4 hb1 L.out
  clear hb1 L
  go_wp2_with fail
  refine (refMay_any _ _ _).mono ?_
  rintro e w2 ⟨rfl, hb2⟩
  have K2 := Kp.keep4 hb2 K1
  clear hb2 K1
  rw [hp]
  go_wp2_with fail
  refine (C1.out _ (Kp.end4 K2)).mono ?_
  rintro e w3 ⟨rfl, hb3⟩
  have K3 := Kp.keep4 hb3 K2
  clear hb3 K2
  go_wp2_with fail
  refine (C2.out _ (Kp.end4 K3)).mono ?_
  rintro e w4 ⟨rfl, hb4⟩
  have K4 := Kp.keep4 hb4 K3
  clear hb4 K3
  go_wp2_with fail
  refine (C3.out _ (Kp.end4 K4)).mono ?_
  rintro e w5 ⟨rfl, hb5⟩
  have K5 := Kp.adq4 (Kp.keep4 hb5 K4) w5.heap.size rfl (.int .i64 r.x1) (.int .i64 r.y1) (.int .i64 r.x2) (.int .i64 r.y2) 38
  clear hb5 K4
  go_wp2_with fail
  refine (refIn_any _ _ _ _ _ _ _).mono ?_
  rintro e v ⟨rfl, hb6⟩
  have K6 := Kp.keep8 hb6 K5
  clear hb6 K5
  have BV := Lib.hid (Kp.end8 K6)
  have Z := Lib.hid (show v.cell? ⟨w.heap.size, 0, none⟩ = some (.int .i64 p.1) ∧ v.cell? ⟨w.heap.size, 1, none⟩ = some (.int .i64 p.2) ∧ v.cell? ⟨w.heap.size + 1, 0, none⟩ = some (.int .i64 d.1) ∧ v.cell? ⟨w.heap.size + 1, 1, none⟩ = some (.int .i64 d.2) from ⟨K6.1, K6.2.1, K6.2.2.1, K6.2.2.2.1⟩)
  clear K6
  cases hin : insB l p
  · rw [hin] at TF RF MF
    go_wp2_with fail

    go_loopw [15, 16, 17] (fun t r i wr => TurnRel v l m t r i wr) (fun _ _ i _ => n - (intOf i).toNat)
    case atStart => exact ⟨0, Nat.zero_le _, rfl, Pair.start _ _ _, Below.refl _ _⟩
    case round =>
      obtain ⟨k, hk, rfl, hP, hB⟩ := hrel
      have hBw : Below w.heap.size w wr := BV.out.trans (hB.mono BV.out.size)
      by_cases hlt : k < n
      · have hkl : k < l.length := by rw [← E.out]; exact hlt
        obtain ⟨a, ha⟩ : ∃ a, a = l[k] := ⟨_, rfl⟩
        have c1 : wr.cell? ⟨b, off + k * 2, none⟩ = some (.int .i64 a.1) := by rw [ha]; exact (hBw.cell (p := ⟨b, off + k * 2, none⟩) hbb).trans (HC.out k hkl).1
        have c2 : wr.cell? ⟨b, off + k * 2 + 1, none⟩ = some (.int .i64 a.2) := by rw [ha]; exact (hBw.cell (p := ⟨b, off + k * 2 + 1, none⟩) hbb).trans (HC.out k hkl).2
        have D := Lib.hid (CI.out a (by rw [ha]; exact List.getElem_mem hkl))
        obtain ⟨j, hj⟩ : ∃ j, j = n - 1 - k := ⟨_, rfl⟩
        have hjl : j < l.length := by have := E.out; omega
        have hjn : j < n := by omega
        have ej : (n : Int) - 1 - (k : Int) = (j : Int) := by omega
        have HJ := Lib.hid (show at_ l ((l.length : Int) - 1 - k) = l[j] by rw [← at_nat hjl, ← E.out, ej])
        obtain ⟨b1, off1, r1, X, Y, eA, _, hr1, hrl1, hX, hY, _, _⟩ := at_cell (HA.out.later hBw) H0.out ((k : Int) + (m : Int)) (by omega)
        simp at eA
        obtain ⟨rfl, rfl⟩ := eA
        have HX := Lib.hid (show (X, Y) = at_ l ((k : Int) + (m : Int)) by rw [hX, hY])
        have R1 : Hid (∀ W, Below w.heap.size w W → W.cell? ⟨b, off + r1 * 2, none⟩ = some (.int .i64 X) ∧ W.cell? ⟨b, off + r1 * 2 + 1, none⟩ = some (.int .i64 Y)) := Lib.hid fun W h => by
          obtain ⟨b2, off2, r2, X2, Y2, eA2, _, hr2, _, hX2, hY2, d1, d2⟩ := at_cell (HA.out.later h) H0.out ((k : Int) + (m : Int)) (by omega)
          simp at eA2
          obtain ⟨rfl, rfl⟩ := eA2
          have : r2 = r1 := by rw [hr1] at hr2; omega
          subst this
          rw [← hX] at hX2
          rw [← hY] at hY2
          subst hX2 hY2
          exact ⟨d1, d2⟩
        rw [← E.out] at hr1 hrl1
        have hr10 : (0 : Int) ≤ (r1 : Int) := by omega
        have hr11 : (r1 : Int) < (n : Int) := by omega
        have hj0 : (0 : Int) ≤ (j : Int) := by omega
        have hj1 : (j : Int) < (n : Int) := by omega
        have hk0 : (0 : Int) ≤ (k : Int) := by omega
        have hk1 : (k : Int) < (n : Int) := by omega
        have HP := Lib.hid hP
        clear ha hX hY hj hP
        go_wp2_with fail
        refine (D.out _ hBw).mono ?_
        rintro e w2 ⟨rfl, hb2⟩
        have B2 := hB.trans (hb2.mono hB.size)
        have Bw2 := BV.out.trans (B2.mono BV.out.size)
        have P2 := Lib.hid ((HP.out.later hb2).later ((Below.refl w2.heap.size w2).alloc (Nat.le_refl _) (.cells #[.int .i64 X, .int .i64 Y] 24)))
        have B2a := B2.alloc B2.size (.cells #[.int .i64 X, .int .i64 Y] 24)
        obtain ⟨d1, d2⟩ := R1.out _ Bw2
        have HB2 := Lib.hid B2a
        have nw := Lib.hid (news_pt w2 X Y 24)
        clear hb2 c1 c2 HP B2a
        go_wp2_with (first | (at_builtin; refine wpList_append_own_at _ rfl _ _ 22 rfl v.heap.size 24 i0 (.agg #[.int .i64 0, .int .i64 0]) 2 16 Try.underlying22 hi hz0 hz1 hz2 rfl (by decide) _ _ _ rfl P2.out.one ⟨w2.heap.size, 0, none⟩ 1 1 [.int .i64 X, .int .i64 Y] rfl rfl nw.out (one_pt X Y) (by rw [turnedL_len]; unfold maxLen; omega) (by rw [turnedL_len]; omega) HB2.out.size ?_))
        intro t1 w3 hown1 hgrow1 _ hat1
        have P3 := P2.out.left (p := (X, Y)) hown1 hgrow1 (by rw [World.size_alloc]; exact hat1)
        have B3 := grown_below (base := 0) HB2.out P2.out.one hgrow1
        have Bw3 := BV.out.trans (B3.mono BV.out.size)
        have e1 : w3.cell? ⟨b, off + j * 2, none⟩ = some (.int .i64 l[j].1) := (Bw3.cell (p := ⟨b, off + j * 2, none⟩) hbb).trans (HC.out j hjl).1
        have e2 : w3.cell? ⟨b, off + j * 2 + 1, none⟩ = some (.int .i64 l[j].2) := (Bw3.cell (p := ⟨b, off + j * 2 + 1, none⟩) hbb).trans (HC.out j hjl).2
        obtain ⟨z, hz⟩ : ∃ z, z = l[j] := ⟨_, rfl⟩
        rw [← hz] at e1 e2
        have HZ := Lib.hid hz
        have P4 := Lib.hid (P3.later ((Below.refl w3.heap.size w3).alloc (Nat.le_refl _) (.cells #[.int .i64 z.1, .int .i64 z.2] 24)))
        have HB3 := Lib.hid (B3.alloc B3.size (.cells #[.int .i64 z.1, .int .i64 z.2] 24))
        have nz := Lib.hid (news_pt w3 z.1 z.2 24)
        clear hown1 hgrow1 hat1 d1 d2 P2 HB2 nw P3 hz
        go_wp2_with (first | (at_builtin; refine wpList_append_own_at _ rfl _ _ 22 rfl v.heap.size 24 i0 (.agg #[.int .i64 0, .int .i64 0]) 2 16 Try.underlying22 hi hz0 hz1 hz2 rfl (by decide) _ _ _ rfl P4.out.two ⟨w3.heap.size, 0, none⟩ 1 1 [.int .i64 z.1, .int .i64 z.2] rfl rfl nz.out (one_pt z.1 z.2) (by rw [roundL_len]; unfold maxLen; omega) (by rw [roundL_len]; omega) HB3.out.size ?_))
        intro t2 w4 hown2 hgrow2 _ hat2
        have P5 := Lib.hid (P4.out.right (p := z) hown2 hgrow2 (by rw [World.size_alloc]; exact hat2))
        have B4 := grown_below (base := 0) HB3.out P4.out.two hgrow2
        clear hown2 hgrow2 hat2 e1 e2 P4 HB3 nz
        go_wp2_with fail
        go_roundw
        case rel =>
          refine ⟨k + 1, by omega, by go_num, ?_, B4⟩
          rw [turnedL_succ, roundL_succ, HJ.out, ← HX.out, ← HZ.out]
          exact P5.out
        case measure => simp [intOf]; omega
      · have hkn : k = l.length := by have := E.out; omega
        rw [hkn] at hP
        obtain ⟨g1, cap1, et, T1⟩ := own_pts hP.one (by rw [turnedL_len]; exact H0.out)
        obtain ⟨g2, cap2, er, T2⟩ := own_pts hP.two (by rw [roundL_len]; exact H0.out)
        rw [turnedL_len, ← E.out] at et
        rw [roundL_len, ← E.out] at er
        subst et er
        obtain ⟨s1, s2, s3⟩ := TF.out
        obtain ⟨s4, s5, s6⟩ := RF.out
        have lt : (turnedL l m l.length).length = n := by rw [turnedL_len, E.out]
        have lr : (roundL l l.length).length = n := by rw [roundL_len, E.out]
        have E1 := Lib.hid (fun W (h : Below wr.heap.size wr W) => simple_any (turnedL l m l.length) (some ⟨g1, 0, none⟩) cap1 W ((T1.later h).wide h.size) (by omega))
        have E2 := Lib.hid (fun W (h : Below wr.heap.size wr W) => simple_any (roundL l l.length) (some ⟨g2, 0, none⟩) cap2 W ((T2.later h).wide h.size) (by omega))
        have E3 := Lib.hid (fun W (h : Below wr.heap.size wr W) => polyIn_any (turnedL l m l.length) (some ⟨g1, 0, none⟩) cap1 p W ((T1.later h).wide h.size) (by omega) (by omega) (simpleB_all s1).1 hp)
        have E4 := Lib.hid (fun W (h : Below wr.heap.size wr W) => polyIn_any (roundL l l.length) (some ⟨g2, 0, none⟩) cap2 p W ((T2.later h).wide h.size) (by omega) (by omega) (simpleB_all s4).1 hp)
        have E5 := Lib.hid (fun W (h : Below wr.heap.size wr W) => twice_any (turnedL l m l.length) (some ⟨g1, 0, none⟩) cap1 W ((T1.later h).wide h.size) (by omega) (by omega) (simpleB_all s1).1)
        have E6 := Lib.hid (fun W (h : Below wr.heap.size wr W) => twice_any (roundL l l.length) (some ⟨g2, 0, none⟩) cap2 W ((T2.later h).wide h.size) (by omega) (by omega) (simpleB_all s4).1)
        rw [lt, s1] at E1
        rw [lr, s4] at E2
        rw [lt, s2] at E3
        rw [lr, s5] at E4
        rw [lt, s3] at E5
        rw [lr, s6] at E6
        have K0 : wr.cell? ⟨w.heap.size, 0, none⟩ = some (.int .i64 p.1) ∧ wr.cell? ⟨w.heap.size, 1, none⟩ = some (.int .i64 p.2) ∧ wr.cell? ⟨w.heap.size + 1, 0, none⟩ = some (.int .i64 d.1) ∧ wr.cell? ⟨w.heap.size + 1, 1, none⟩ = some (.int .i64 d.2) ∧ wr.heap.size ≤ wr.heap.size ∧ Below wr.heap.size wr wr := ⟨cell_later hB Z.out.1, cell_later hB Z.out.2.1, cell_later hB Z.out.2.2.1, cell_later hB Z.out.2.2.2, Nat.le_refl _, Below.refl _ _⟩
        have HBW := Lib.hid hBw
        clear hP T1 T2 s1 s2 s3 s4 s5 s6 lt lr hkn hB hBw
        go_wp2_with fail
        refine (E1.out _ (Kp.end4 K0)).mono ?_
        rintro e wK1 ⟨rfl, hbK1⟩
        have K1 := Kp.keep4 hbK1 K0
        clear hbK1 K0
        go_wp2_with fail
        refine (E2.out _ (Kp.end4 K1)).mono ?_
        rintro e wK2 ⟨rfl, hbK2⟩
        have K2 := Kp.keep4 hbK2 K1
        clear hbK2 K1
        go_wp2_with fail
        refine (E3.out _ (Kp.end4 K2)).mono ?_
        rintro e wK3 ⟨rfl, hbK3⟩
        have K3 := Kp.keep4 hbK3 K2
        clear hbK3 K2
        go_wp2_with fail
        refine (E4.out _ (Kp.end4 K3)).mono ?_
        rintro e wK4 ⟨rfl, hbK4⟩
        have K4 := Kp.keep4 hbK4 K3
        clear hbK4 K3
        go_wp2_with fail
        refine (E5.out _ (Kp.end4 K4)).mono ?_
        rintro e wK5 ⟨rfl, hbK5⟩
        have K5 := Kp.keep4 hbK5 K4
        clear hbK5 K4
        go_wp2_with fail
        refine (C4.out _ (HBW.out.trans ((Kp.end4 K5).mono HBW.out.size))).mono ?_
        rintro e wK6 ⟨rfl, hbK6⟩
        have K6 := Kp.keep4 hbK6 K5
        clear hbK6 K5
        go_wp2_with fail
        refine (E6.out _ (Kp.end4 K6)).mono ?_
        rintro e wK7 ⟨rfl, hbK7⟩
        have K7 := Kp.keep4 hbK7 K6
        clear hbK7 K6
        go_wp2_with fail
        refine (C4.out _ (HBW.out.trans ((Kp.end4 K7).mono HBW.out.size))).mono ?_
        rintro e wK8 ⟨rfl, hbK8⟩
        have K8 := Kp.keep4 hbK8 K7
        clear hbK8 K7
        go_wp2_with fail
        refine (C5.out _ (HBW.out.trans ((Kp.end4 K8).mono HBW.out.size))).mono ?_
        rintro e w9 ⟨hb9, hres⟩
        have K9 := Kp.keep4 hb9 K8
        clear hb9 K8
        rcases hres with ⟨hfine, g, rfl, hM⟩ | ⟨hfine, rfl⟩
        · obtain ⟨q1, q2⟩ := MF.out
          have bd := sum_bd (show pmay p = true from hp) (fine_d hfine)
          have x1 := IntWalk.i64_in (p.1 + d.1) (by omega)
          have x2 := IntWalk.i64_in (p.2 + d.2) (by omega)
          have lm : (moveL l d).length = n := by unfold moveL; rw [List.length_map, E.out]
          have G1 := Lib.hid (fun (hq : mayB (p.1 + d.1) (p.2 + d.2) = true) W (h : Below w9.heap.size w9 W) => polyIn_any (moveL l d) (some ⟨g, 0, none⟩) n (p.1 + d.1, p.2 + d.2) W ((hM.later h).wide h.size) (by omega) (by omega) (moved_may hfine) hq)
          have G2 := Lib.hid (fun W (h : Below w9.heap.size w9 W) => twice_any (moveL l d) (some ⟨g, 0, none⟩) n W ((hM.later h).wide h.size) (by omega) (by omega) (moved_may hfine))
          unfold addP at q1
          rw [lm, q1] at G1
          rw [lm, q2] at G2
          have HBW9 := Lib.hid (HBW.out.trans ((Kp.end4 K9).mono HBW.out.size))
          have K9' := K9
          clear hM bd lm hfine q1 q2
          go_wp2_with fail
          refine (refMay_any _ _ _).mono ?_
          rintro e w10 ⟨rfl, hb10⟩
          have F0 : Below w9.heap.size w9 (w9.alloc (.cells #[.int .i64 (p.1 + d.1), .int .i64 (p.2 + d.2)] 24)) := (Below.refl _ _).alloc (Nat.le_refl _) _
          have F1 := F0.trans (hb10.mono F0.size)
          have y1 : w10.cell? ⟨w9.heap.size, 0, none⟩ = some (.int .i64 (p.1 + d.1)) := by rw [hb10.cell (by simp)]; simp [go_sem]
          have y2 : w10.cell? ⟨w9.heap.size, 1, none⟩ = some (.int .i64 (p.2 + d.2)) := by rw [hb10.cell (by simp)]; simp [go_sem]
          clear hb10 F0
          cases hq : mayB (p.1 + d.1) (p.2 + d.2)
          · go_wp2_with fail
            go_ret
            exact ⟨rfl, HBW9.out.trans (F1.mono HBW9.out.size)⟩
          · go_wp2_with fail
            refine (G1.out hq _ F1).mono ?_
            rintro e w11 ⟨rfl, hb11⟩
            have F2 := F1.trans (hb11.mono F1.size)
            clear hb11
            go_wp2_with fail
            refine (G2.out _ F2).mono ?_
            rintro e w12 ⟨rfl, hb12⟩
            have F3 := F2.trans (hb12.mono F2.size)
            clear hb12
            go_wp2_with fail
            refine (C4.out _ (HBW9.out.trans (F3.mono HBW9.out.size))).mono ?_
            rintro e w13 ⟨rfl, hb13⟩
            have F4 := F3.trans (hb13.mono F3.size)
            clear hb13
            go_wp2_with fail
            go_ret
            exact ⟨rfl, HBW9.out.trans (F4.mono HBW9.out.size)⟩
        · have HBW9 := Lib.hid (HBW.out.trans ((Kp.end4 K9).mono HBW.out.size))
          obtain ⟨sx, hsx⟩ : ∃ s, s = IntKind.i64.wrap (p.1 + d.1) := ⟨_, rfl⟩
          obtain ⟨sy, hsy⟩ : ∃ s, s = IntKind.i64.wrap (p.2 + d.2) := ⟨_, rfl⟩
          have x1 := hsx.symm
          have x2 := hsy.symm
          clear hsx hsy hfine
          go_wp2_with fail
          refine (refMay_any _ _ _).mono ?_
          rintro e w10 ⟨rfl, hb10⟩
          have F0 : Below w9.heap.size w9 (w9.alloc (.cells #[.int .i64 sx, .int .i64 sy] 24)) := (Below.refl _ _).alloc (Nat.le_refl _) _
          have F1 := F0.trans (hb10.mono F0.size)
          clear hb10 F0
          go_wp2_with fail
          go_ret
          exact ⟨rfl, HBW9.out.trans (F1.mono HBW9.out.size)⟩

  · rw [hin] at TF RF MF
    rw [X.out hin]
    go_wp2_with fail

    go_loopw [15, 16, 17] (fun t r i wr => TurnRel v l m t r i wr) (fun _ _ i _ => n - (intOf i).toNat)
    case atStart => exact ⟨0, Nat.zero_le _, rfl, Pair.start _ _ _, Below.refl _ _⟩
    case round =>
      obtain ⟨k, hk, rfl, hP, hB⟩ := hrel
      have hBw : Below w.heap.size w wr := BV.out.trans (hB.mono BV.out.size)
      by_cases hlt : k < n
      · have hkl : k < l.length := by rw [← E.out]; exact hlt
        obtain ⟨a, ha⟩ : ∃ a, a = l[k] := ⟨_, rfl⟩
        have c1 : wr.cell? ⟨b, off + k * 2, none⟩ = some (.int .i64 a.1) := by rw [ha]; exact (hBw.cell (p := ⟨b, off + k * 2, none⟩) hbb).trans (HC.out k hkl).1
        have c2 : wr.cell? ⟨b, off + k * 2 + 1, none⟩ = some (.int .i64 a.2) := by rw [ha]; exact (hBw.cell (p := ⟨b, off + k * 2 + 1, none⟩) hbb).trans (HC.out k hkl).2
        have D := Lib.hid (CI.out a (by rw [ha]; exact List.getElem_mem hkl))
        obtain ⟨j, hj⟩ : ∃ j, j = n - 1 - k := ⟨_, rfl⟩
        have hjl : j < l.length := by have := E.out; omega
        have hjn : j < n := by omega
        have ej : (n : Int) - 1 - (k : Int) = (j : Int) := by omega
        have HJ := Lib.hid (show at_ l ((l.length : Int) - 1 - k) = l[j] by rw [← at_nat hjl, ← E.out, ej])
        obtain ⟨b1, off1, r1, X, Y, eA, _, hr1, hrl1, hX, hY, _, _⟩ := at_cell (HA.out.later hBw) H0.out ((k : Int) + (m : Int)) (by omega)
        simp at eA
        obtain ⟨rfl, rfl⟩ := eA
        have HX := Lib.hid (show (X, Y) = at_ l ((k : Int) + (m : Int)) by rw [hX, hY])
        have R1 : Hid (∀ W, Below w.heap.size w W → W.cell? ⟨b, off + r1 * 2, none⟩ = some (.int .i64 X) ∧ W.cell? ⟨b, off + r1 * 2 + 1, none⟩ = some (.int .i64 Y)) := Lib.hid fun W h => by
          obtain ⟨b2, off2, r2, X2, Y2, eA2, _, hr2, _, hX2, hY2, d1, d2⟩ := at_cell (HA.out.later h) H0.out ((k : Int) + (m : Int)) (by omega)
          simp at eA2
          obtain ⟨rfl, rfl⟩ := eA2
          have : r2 = r1 := by rw [hr1] at hr2; omega
          subst this
          rw [← hX] at hX2
          rw [← hY] at hY2
          subst hX2 hY2
          exact ⟨d1, d2⟩
        rw [← E.out] at hr1 hrl1
        have hr10 : (0 : Int) ≤ (r1 : Int) := by omega
        have hr11 : (r1 : Int) < (n : Int) := by omega
        have hj0 : (0 : Int) ≤ (j : Int) := by omega
        have hj1 : (j : Int) < (n : Int) := by omega
        have hk0 : (0 : Int) ≤ (k : Int) := by omega
        have hk1 : (k : Int) < (n : Int) := by omega
        have HP := Lib.hid hP
        clear ha hX hY hj hP
        go_wp2_with fail
        refine (D.out _ hBw).mono ?_
        rintro e w2 ⟨rfl, hb2⟩
        have B2 := hB.trans (hb2.mono hB.size)
        have Bw2 := BV.out.trans (B2.mono BV.out.size)
        have P2 := Lib.hid ((HP.out.later hb2).later ((Below.refl w2.heap.size w2).alloc (Nat.le_refl _) (.cells #[.int .i64 X, .int .i64 Y] 24)))
        have B2a := B2.alloc B2.size (.cells #[.int .i64 X, .int .i64 Y] 24)
        obtain ⟨d1, d2⟩ := R1.out _ Bw2
        have HB2 := Lib.hid B2a
        have nw := Lib.hid (news_pt w2 X Y 24)
        clear hb2 c1 c2 HP B2a
        go_wp2_with (first | (at_builtin; refine wpList_append_own_at _ rfl _ _ 22 rfl v.heap.size 24 i0 (.agg #[.int .i64 0, .int .i64 0]) 2 16 Try.underlying22 hi hz0 hz1 hz2 rfl (by decide) _ _ _ rfl P2.out.one ⟨w2.heap.size, 0, none⟩ 1 1 [.int .i64 X, .int .i64 Y] rfl rfl nw.out (one_pt X Y) (by rw [turnedL_len]; unfold maxLen; omega) (by rw [turnedL_len]; omega) HB2.out.size ?_))
        intro t1 w3 hown1 hgrow1 _ hat1
        have P3 := P2.out.left (p := (X, Y)) hown1 hgrow1 (by rw [World.size_alloc]; exact hat1)
        have B3 := grown_below (base := 0) HB2.out P2.out.one hgrow1
        have Bw3 := BV.out.trans (B3.mono BV.out.size)
        have e1 : w3.cell? ⟨b, off + j * 2, none⟩ = some (.int .i64 l[j].1) := (Bw3.cell (p := ⟨b, off + j * 2, none⟩) hbb).trans (HC.out j hjl).1
        have e2 : w3.cell? ⟨b, off + j * 2 + 1, none⟩ = some (.int .i64 l[j].2) := (Bw3.cell (p := ⟨b, off + j * 2 + 1, none⟩) hbb).trans (HC.out j hjl).2
        obtain ⟨z, hz⟩ : ∃ z, z = l[j] := ⟨_, rfl⟩
        rw [← hz] at e1 e2
        have HZ := Lib.hid hz
        have P4 := Lib.hid (P3.later ((Below.refl w3.heap.size w3).alloc (Nat.le_refl _) (.cells #[.int .i64 z.1, .int .i64 z.2] 24)))
        have HB3 := Lib.hid (B3.alloc B3.size (.cells #[.int .i64 z.1, .int .i64 z.2] 24))
        have nz := Lib.hid (news_pt w3 z.1 z.2 24)
        clear hown1 hgrow1 hat1 d1 d2 P2 HB2 nw P3 hz
        go_wp2_with (first | (at_builtin; refine wpList_append_own_at _ rfl _ _ 22 rfl v.heap.size 24 i0 (.agg #[.int .i64 0, .int .i64 0]) 2 16 Try.underlying22 hi hz0 hz1 hz2 rfl (by decide) _ _ _ rfl P4.out.two ⟨w3.heap.size, 0, none⟩ 1 1 [.int .i64 z.1, .int .i64 z.2] rfl rfl nz.out (one_pt z.1 z.2) (by rw [roundL_len]; unfold maxLen; omega) (by rw [roundL_len]; omega) HB3.out.size ?_))
        intro t2 w4 hown2 hgrow2 _ hat2
        have P5 := Lib.hid (P4.out.right (p := z) hown2 hgrow2 (by rw [World.size_alloc]; exact hat2))
        have B4 := grown_below (base := 0) HB3.out P4.out.two hgrow2
        clear hown2 hgrow2 hat2 e1 e2 P4 HB3 nz
        go_wp2_with fail
        go_roundw
        case rel =>
          refine ⟨k + 1, by omega, by go_num, ?_, B4⟩
          rw [turnedL_succ, roundL_succ, HJ.out, ← HX.out, ← HZ.out]
          exact P5.out
        case measure => simp [intOf]; omega
      · have hkn : k = l.length := by have := E.out; omega
        rw [hkn] at hP
        obtain ⟨g1, cap1, et, T1⟩ := own_pts hP.one (by rw [turnedL_len]; exact H0.out)
        obtain ⟨g2, cap2, er, T2⟩ := own_pts hP.two (by rw [roundL_len]; exact H0.out)
        rw [turnedL_len, ← E.out] at et
        rw [roundL_len, ← E.out] at er
        subst et er
        obtain ⟨s1, s2, s3⟩ := TF.out
        obtain ⟨s4, s5, s6⟩ := RF.out
        have lt : (turnedL l m l.length).length = n := by rw [turnedL_len, E.out]
        have lr : (roundL l l.length).length = n := by rw [roundL_len, E.out]
        have E1 := Lib.hid (fun W (h : Below wr.heap.size wr W) => simple_any (turnedL l m l.length) (some ⟨g1, 0, none⟩) cap1 W ((T1.later h).wide h.size) (by omega))
        have E2 := Lib.hid (fun W (h : Below wr.heap.size wr W) => simple_any (roundL l l.length) (some ⟨g2, 0, none⟩) cap2 W ((T2.later h).wide h.size) (by omega))
        have E3 := Lib.hid (fun W (h : Below wr.heap.size wr W) => polyIn_any (turnedL l m l.length) (some ⟨g1, 0, none⟩) cap1 p W ((T1.later h).wide h.size) (by omega) (by omega) (simpleB_all s1).1 hp)
        have E4 := Lib.hid (fun W (h : Below wr.heap.size wr W) => polyIn_any (roundL l l.length) (some ⟨g2, 0, none⟩) cap2 p W ((T2.later h).wide h.size) (by omega) (by omega) (simpleB_all s4).1 hp)
        have E5 := Lib.hid (fun W (h : Below wr.heap.size wr W) => twice_any (turnedL l m l.length) (some ⟨g1, 0, none⟩) cap1 W ((T1.later h).wide h.size) (by omega) (by omega) (simpleB_all s1).1)
        have E6 := Lib.hid (fun W (h : Below wr.heap.size wr W) => twice_any (roundL l l.length) (some ⟨g2, 0, none⟩) cap2 W ((T2.later h).wide h.size) (by omega) (by omega) (simpleB_all s4).1)
        rw [lt, s1] at E1
        rw [lr, s4] at E2
        rw [lt, s2] at E3
        rw [lr, s5] at E4
        rw [lt, s3] at E5
        rw [lr, s6] at E6
        have K0 : wr.cell? ⟨w.heap.size, 0, none⟩ = some (.int .i64 p.1) ∧ wr.cell? ⟨w.heap.size, 1, none⟩ = some (.int .i64 p.2) ∧ wr.cell? ⟨w.heap.size + 1, 0, none⟩ = some (.int .i64 d.1) ∧ wr.cell? ⟨w.heap.size + 1, 1, none⟩ = some (.int .i64 d.2) ∧ wr.heap.size ≤ wr.heap.size ∧ Below wr.heap.size wr wr := ⟨cell_later hB Z.out.1, cell_later hB Z.out.2.1, cell_later hB Z.out.2.2.1, cell_later hB Z.out.2.2.2, Nat.le_refl _, Below.refl _ _⟩
        have HBW := Lib.hid hBw
        clear hP T1 T2 s1 s2 s3 s4 s5 s6 lt lr hkn hB hBw
        go_wp2_with fail
        refine (E1.out _ (Kp.end4 K0)).mono ?_
        rintro e wK1 ⟨rfl, hbK1⟩
        have K1 := Kp.keep4 hbK1 K0
        clear hbK1 K0
        go_wp2_with fail
        refine (E2.out _ (Kp.end4 K1)).mono ?_
        rintro e wK2 ⟨rfl, hbK2⟩
        have K2 := Kp.keep4 hbK2 K1
        clear hbK2 K1
        go_wp2_with fail
        refine (E3.out _ (Kp.end4 K2)).mono ?_
        rintro e wK3 ⟨rfl, hbK3⟩
        have K3 := Kp.keep4 hbK3 K2
        clear hbK3 K2
        go_wp2_with fail
        refine (E4.out _ (Kp.end4 K3)).mono ?_
        rintro e wK4 ⟨rfl, hbK4⟩
        have K4 := Kp.keep4 hbK4 K3
        clear hbK4 K3
        go_wp2_with fail
        refine (E5.out _ (Kp.end4 K4)).mono ?_
        rintro e wK5 ⟨rfl, hbK5⟩
        have K5 := Kp.keep4 hbK5 K4
        clear hbK5 K4
        go_wp2_with fail
        refine (C4.out _ (HBW.out.trans ((Kp.end4 K5).mono HBW.out.size))).mono ?_
        rintro e wK6 ⟨rfl, hbK6⟩
        have K6 := Kp.keep4 hbK6 K5
        clear hbK6 K5
        go_wp2_with fail
        refine (E6.out _ (Kp.end4 K6)).mono ?_
        rintro e wK7 ⟨rfl, hbK7⟩
        have K7 := Kp.keep4 hbK7 K6
        clear hbK7 K6
        go_wp2_with fail
        refine (C4.out _ (HBW.out.trans ((Kp.end4 K7).mono HBW.out.size))).mono ?_
        rintro e wK8 ⟨rfl, hbK8⟩
        have K8 := Kp.keep4 hbK8 K7
        clear hbK8 K7
        go_wp2_with fail
        refine (C5.out _ (HBW.out.trans ((Kp.end4 K8).mono HBW.out.size))).mono ?_
        rintro e w9 ⟨hb9, hres⟩
        have K9 := Kp.keep4 hb9 K8
        clear hb9 K8
        rcases hres with ⟨hfine, g, rfl, hM⟩ | ⟨hfine, rfl⟩
        · obtain ⟨q1, q2⟩ := MF.out
          have bd := sum_bd (show pmay p = true from hp) (fine_d hfine)
          have x1 := IntWalk.i64_in (p.1 + d.1) (by omega)
          have x2 := IntWalk.i64_in (p.2 + d.2) (by omega)
          have lm : (moveL l d).length = n := by unfold moveL; rw [List.length_map, E.out]
          have G1 := Lib.hid (fun (hq : mayB (p.1 + d.1) (p.2 + d.2) = true) W (h : Below w9.heap.size w9 W) => polyIn_any (moveL l d) (some ⟨g, 0, none⟩) n (p.1 + d.1, p.2 + d.2) W ((hM.later h).wide h.size) (by omega) (by omega) (moved_may hfine) hq)
          have G2 := Lib.hid (fun W (h : Below w9.heap.size w9 W) => twice_any (moveL l d) (some ⟨g, 0, none⟩) n W ((hM.later h).wide h.size) (by omega) (by omega) (moved_may hfine))
          unfold addP at q1
          rw [lm, q1] at G1
          rw [lm, q2] at G2
          have HBW9 := Lib.hid (HBW.out.trans ((Kp.end4 K9).mono HBW.out.size))
          have K9' := K9
          clear hM bd lm hfine q1 q2
          go_wp2_with fail
          refine (refMay_any _ _ _).mono ?_
          rintro e w10 ⟨rfl, hb10⟩
          have F0 : Below w9.heap.size w9 (w9.alloc (.cells #[.int .i64 (p.1 + d.1), .int .i64 (p.2 + d.2)] 24)) := (Below.refl _ _).alloc (Nat.le_refl _) _
          have F1 := F0.trans (hb10.mono F0.size)
          have y1 : w10.cell? ⟨w9.heap.size, 0, none⟩ = some (.int .i64 (p.1 + d.1)) := by rw [hb10.cell (by simp)]; simp [go_sem]
          have y2 : w10.cell? ⟨w9.heap.size, 1, none⟩ = some (.int .i64 (p.2 + d.2)) := by rw [hb10.cell (by simp)]; simp [go_sem]
          clear hb10 F0
          cases hq : mayB (p.1 + d.1) (p.2 + d.2)
          · go_wp2_with fail
            go_ret
            exact ⟨rfl, HBW9.out.trans (F1.mono HBW9.out.size)⟩
          · go_wp2_with fail
            refine (G1.out hq _ F1).mono ?_
            rintro e w11 ⟨rfl, hb11⟩
            have F2 := F1.trans (hb11.mono F1.size)
            clear hb11
            go_wp2_with fail
            refine (G2.out _ F2).mono ?_
            rintro e w12 ⟨rfl, hb12⟩
            have F3 := F2.trans (hb12.mono F2.size)
            clear hb12
            go_wp2_with fail
            refine (C4.out _ (HBW9.out.trans (F3.mono HBW9.out.size))).mono ?_
            rintro e w13 ⟨rfl, hb13⟩
            have F4 := F3.trans (hb13.mono F3.size)
            clear hb13
            go_wp2_with fail
            go_ret
            exact ⟨rfl, HBW9.out.trans (F4.mono HBW9.out.size)⟩
        · have HBW9 := Lib.hid (HBW.out.trans ((Kp.end4 K9).mono HBW.out.size))
          obtain ⟨sx, hsx⟩ : ∃ s, s = IntKind.i64.wrap (p.1 + d.1) := ⟨_, rfl⟩
          obtain ⟨sy, hsy⟩ : ∃ s, s = IntKind.i64.wrap (p.2 + d.2) := ⟨_, rfl⟩
          have x1 := hsx.symm
          have x2 := hsy.symm
          clear hsx hsy hfine
          go_wp2_with fail
          refine (refMay_any _ _ _).mono ?_
          rintro e w10 ⟨rfl, hb10⟩
          have F0 : Below w9.heap.size w9 (w9.alloc (.cells #[.int .i64 sx, .int .i64 sy] 24)) := (Below.refl _ _).alloc (Nat.le_refl _) _
          have F1 := F0.trans (hb10.mono F0.size)
          clear hb10 F0
          go_wp2_with fail
          go_ret
          exact ⟨rfl, HBW9.out.trans (F1.mono HBW9.out.size)⟩

theorem turned_law (l : List Pnt) (A : Option Addr) (c : Nat) (px py dx dy f : Int) (w : World) (hA : PtsAt w w.heap.size A l) (hm : l.length ≤ maxLen) :
    Calls Try.prog 5 #[.slice A l.length c, .agg #[.int .i64 px, .int .i64 py], .agg #[.int .i64 dx, .int .i64 dy], .int .i64 f] w fun e w' => e = .returned (.bool true) ∧ Below w.heap.size w w' := by
  by_cases h : l.length ≤ 64
  · cases hp : mayB px py
    · exact turned_may l A l.length c (px, py) (dx, dy) f w h hp
    · by_cases h1 : f < 0
      · exact turned_low l A l.length c (px, py) (dx, dy) f w h hp h1
      · by_cases h2 : 100 < f
        · exact turned_high l A l.length c (px, py) (dx, dy) f w h hp h2
        · cases hs : simpleB l
          · exact turned_not l A l.length c (px, py) (dx, dy) f w hA rfl h hp (by omega) (by omega) hs
          · obtain ⟨m, rfl⟩ : ∃ m : Nat, f = (m : Int) := ⟨f.toNat, by omega⟩
            exact turned_main l A c (px, py) (dx, dy) m w hA hs hp (by omega)
  · exact turned_far l A l.length c (px, py) (dx, dy) f w (by omega) hm _ rfl
end Go.Proofs.Ytoijgppkpagelaa.Pl
