/-
  The contract of Of of layer 2 (rect), for any points (at most 300): the least rectangle that has them all, or a zero one. Memory that was there is left as it was.
-/
import Derived.Test.YtiggjaodfmelpaaRcOfPlain
import Derived.Test.YtiggjaodfmelpaaRcJoin
import Derived.Test.YtiggjaodfmelpaaRcSub
import Derived.Test.YtiggjaodfmelpaaPts
import Derived.Handy
namespace Go.Proofs.Ytiggjaodfmelpaa.Rc
open Go.RowKit Go.Proofs.Ytiggjaodfmelpaa.Pt Go.Proofs.Ytiggjaodfmelpaa.Pts

theorem of_nil (A : Option Addr) (c : Nat) (w : World) : Calls Try.prog 24 #[.slice A 0 c] w fun e w' => e = .returned (.tuple #[.agg #[.int .i64 0, .int .i64 0, .int .i64 0, .int .i64 0], .bool false]) ∧ Below w.heap.size w w' := by
  go_enter Try.func24, Try.ntmps24
  go_wp2
  refine bodyPost_ret (v := .tuple #[.agg #[.int .i64 0, .int .i64 0, .int .i64 0, .int .i64 0], .bool false]) (by simp [results, Try.results24, go_sem]) rfl ⟨rfl, ?_⟩
  exact (Below.refl _ _).alloc (Nat.le_refl _) _

theorem rel_step {l : List (Int × Int)} {k : Nat} {p : Int × Int} {r : R4} {X Y : Int} {W : World} {g : Nat} (hk : k < l.length) (hr : r = accR p l k) (hX : X = l[k].1) (hY : Y = l[k].2)
    (h : Rc4 W g (mn r.x1 X) (mn r.y1 Y) (mx r.x2 X) (mx r.y2 Y)) : Rc4 W g (accR p l (k + 1)).x1 (accR p l (k + 1)).y1 (accR p l (k + 1)).x2 (accR p l (k + 1)).y2 := by
  rw [accR_succ p l k hk, ← hr]; subst hX hY; exact h
theorem rel_end {k n : Nat} {p : Int × Int} {t : List (Int × Int)} (hn : n = (p :: t).length) (hk : k = n) (h : ((p :: t).take k).all pmay = true) : (p :: t).all pmay = true ∧ accR p (p :: t) k = ofR (p :: t) := by
  subst hk hn
  have h' : (p :: t).all pmay = true := by rw [List.take_of_length_le (Nat.le_refl _)] at h; exact h
  exact ⟨h', (ofR_yes h').symm⟩
/-- What holds at the head of each round of Of's loop. -/
def OfRel (w : World) (g : Nat) (p : Int × Int) (l : List (Int × Int)) (i : Value) (wr : World) : Prop :=
  ∃ k : Nat, k ≤ l.length ∧ i = .int .i64 k ∧ (l.take k).all pmay = true ∧ Rc4 wr w.heap.size 0 0 0 0 ∧ Rc4 wr g (accR p l k).x1 (accR p l k).y1 (accR p l k).x2 (accR p l k).y2 ∧ Below w.heap.size w wr

set_option maxHeartbeats 2000000 in
theorem of_some (p : Int × Int) (t : List (Int × Int)) (b off c : Nat) (w : World) (hBb : b < w.heap.size) (hn : (p :: t).length ≤ 300)
    (hc : ∀ (k : Nat) (h : k < (p :: t).length), w.cell? ⟨b, off + k * 2, none⟩ = some (.int .i64 (p :: t)[k].1) ∧ w.cell? ⟨b, off + k * 2 + 1, none⟩ = some (.int .i64 (p :: t)[k].2)) :
    Calls Try.prog 24 #[.slice (some ⟨b, off, none⟩) (p :: t).length c] w fun e w' => e = .returned (.tuple #[.agg #[.int .i64 (ofR (p :: t)).x1, .int .i64 (ofR (p :: t)).y1, .int .i64 (ofR (p :: t)).x2, .int .i64 (ofR (p :: t)).y2], .bool (ofB (p :: t))]) ∧ Below w.heap.size w w' := by
  obtain ⟨n, e⟩ : ∃ n, n = (p :: t).length := ⟨_, rfl⟩
  have h0 : 0 < n := by simp [e]
  have q1 : w.cell? ⟨b, off, none⟩ = some (.int .i64 p.1) := (hc 0 (by simp)).1
  have q2 : w.cell? ⟨b, off + 1, none⟩ = some (.int .i64 p.2) := (hc 0 (by simp)).2
  have HC := Lib.hid hc
  rw [← e] at hn ⊢
  have E := Lib.hid e
  clear e hc
  go_enter Try.func24, Try.ntmps24
  go_wp2_with fail
  refine (single_any _ _ _).mono ?_
  rintro e w1 ⟨rfl, hb1⟩
  have hz1 : w.heap.size < w1.heap.size := by have := hb1.size; simp at this; omega
  have S1 := Lib.hid (show OfRel w w1.heap.size p (p :: t) (.int .i64 0) (w1.alloc (.cells #[.int .i64 p.1, .int .i64 p.2, .int .i64 p.1, .int .i64 p.2] 23)) from
    ⟨0, Nat.zero_le _, rfl, rfl, ((Rc4.new w 0 0 0 0 23).later hb1).alloc _, Rc4.new w1 _ _ _ _ _, (((Below.refl w.heap.size w).alloc (Nat.le_refl _) _).trans (hb1.mono (by simp))).alloc (by omega) _⟩)
  clear hb1
  obtain ⟨g, hg⟩ : ∃ g, g = w1.heap.size := ⟨_, rfl⟩
  rw [← hg] at S1 hz1
  have G := Lib.hid hg
  go_wp2_with fail
  rw [← hg]
  clear hg
  go_loopw [17] (fun i wr => OfRel w g p (p :: t) i wr) (fun i _ => n - (intOf i).toNat)
  case atStart => have hg := G.out; subst hg; exact S1.out
  case round =>
    obtain ⟨k, hk, rfl, hall, hZ, hR, hB⟩ := hrel
    by_cases hlt : k < n
    · have hkl : k < (p :: t).length := by rw [← E.out]; exact hlt
      obtain ⟨X, hX⟩ : ∃ X, X = (p :: t)[k].1 := ⟨_, rfl⟩
      obtain ⟨Y, hY⟩ : ∃ Y, Y = (p :: t)[k].2 := ⟨_, rfl⟩
      have c1 : wr.cell? ⟨b, off + k * 2, none⟩ = some (.int .i64 X) := by rw [hX]; exact (hB.cell (p := ⟨b, off + k * 2, none⟩) hBb).trans (HC.out k hkl).1
      have c2 : wr.cell? ⟨b, off + k * 2 + 1, none⟩ = some (.int .i64 Y) := by rw [hY]; exact (hB.cell (p := ⟨b, off + k * 2 + 1, none⟩) hBb).trans (HC.out k hkl).2
      have HX := Lib.hid hX
      have HY := Lib.hid hY
      have HA := Lib.hid hall
      clear hX hY hall
      have hk0 : (0 : Int) ≤ (k : Int) := by omega
      have hk1 : (k : Int) < (n : Int) := by omega
      go_wp2_with fail
      refine (may_any _ _ _).mono ?_
      rintro e w2 ⟨rfl, hb2⟩
      have Z2 := (hZ.alloc _).later hb2
      have R2 := (hR.alloc _).later hb2
      have B2 : Below w.heap.size w w2 := (hB.alloc hB.size _).trans (hb2.mono (by have := hB.size; simp; omega))
      have p1 : w2.cell? ⟨wr.heap.size, 0, none⟩ = some (.int .i64 X) := by rw [hb2.cell (by simp)]; simp [go_sem]
      have p2 : w2.cell? ⟨wr.heap.size, 1, none⟩ = some (.int .i64 Y) := by rw [hb2.cell (by simp)]; simp [go_sem]
      have hz2 : wr.heap.size < w2.heap.size := by have := hb2.size; simp at this; omega
      clear hb2 hZ hR c1 c2
      cases hm : mayB X Y
      · have Z := Z2
        obtain ⟨z0, z1, z2, z3, f0, f1, f2, f3⟩ := Z
        go_wp2_with fail
        have hno : (p :: t).all pmay = false := all_no hkl (by unfold pmay; rw [← HX.out, ← HY.out]; exact hm)
        rw [ofR_no hno, ofB_no hno]
        refine bodyPost_ret (v := .tuple #[.agg #[.int .i64 0, .int .i64 0, .int .i64 0, .int .i64 0], .bool false]) ?_ rfl ⟨rfl, ?_⟩
        · simp [results, Try.results24, go_sem, *]
        · exact (((B2.setCell (by simp) _).setCell (by simp) _).setCell (by simp) _).setCell (by simp) _
      · obtain ⟨r, hr⟩ : ∃ r, r = accR p (p :: t) k := ⟨_, rfl⟩
        rw [← hr] at R2
        have HR := Lib.hid hr
        clear hr
        have R := R2
        obtain ⟨z0, z1, z2, z3, f0, f1, f2, f3⟩ := R
        go_wp2_with fail
        go_region_with (first | (go_at_call 39; refine (single_any _ _ _).mono ?_; rintro e w3 ⟨rfl, hb3⟩; have R3 := (Rc4.drew R2).later hb3; have Z3 := (Rc4.drew Z2).later hb3; have B3 := (B2.drew).trans (hb3.mono (by have := B2.size; simp; omega)); clear hb3; have R3' := R3; obtain ⟨y0, y1, y2, y3, g0, g1, g2, g3⟩ := R3') | (go_at_call 40; refine (join_any _ _ _ _ _ _ _ _ _).mono ?_; rintro e w4 ⟨rfl, hb4⟩; have R4 := R3.later hb4; have Z4 := Z3.later hb4; have B4 := B3.trans (hb4.mono B3.size); clear hb4; have R4' := R4; obtain ⟨x0, x1, x2, x3, h0, h1, h2, h3⟩ := R4'))
        all_goals go_wp2_with fail
        all_goals
          go_roundw
          case rel => exact ⟨k + 1, by omega, by go_num, all_succ hkl HA.out (by unfold pmay; rw [← HX.out, ← HY.out]; exact hm), (((Z4.far _ (by simp; omega)).far _ (by simp; omega)).far _ (by simp; omega)).far _ (by simp; omega), rel_step hkl HR.out HX.out HY.out (R4.set _ _ _ _), (((B4.setCell (by simp; omega) _).setCell (by simp; omega) _).setCell (by simp; omega) _).setCell (by simp; omega) _⟩
          case measure => simp [intOf]; omega
    · have hkn : k = n := by have := E.out; omega
      obtain ⟨hyes, hacc⟩ := rel_end E.out hkn hall
      rw [hacc] at hR
      obtain ⟨r, hr⟩ : ∃ r, r = ofR (p :: t) := ⟨_, rfl⟩
      rw [← hr] at hR
      have HR := Lib.hid hr
      have HY := Lib.hid hyes
      clear hall hkn hr hacc hyes
      have R := hR
      have Z := hZ
      obtain ⟨y0, y1, y2, y3, g0, g1, g2, g3⟩ := R
      obtain ⟨z0, z1, z2, z3, f0, f1, f2, f3⟩ := Z
      go_wp2_with fail
      rw [← HR.out, ofB_yes HY.out]
      refine bodyPost_ret (v := .tuple #[.agg #[.int .i64 r.x1, .int .i64 r.y1, .int .i64 r.x2, .int .i64 r.y2], .bool true]) ?_ rfl ⟨rfl, ?_⟩
      · simp [results, Try.results24, go_sem, *]
      · exact (((hB.setCell (by simp) _).setCell (by simp) _).setCell (by simp) _).setCell (by simp) _

theorem of_any (l : List (Int × Int)) (A : Option Addr) (c : Nat) (w : World) (hA : PtsAt w w.heap.size A l) (hn : l.length ≤ 300) :
    Calls Try.prog 24 #[.slice A l.length c] w fun e w' => e = .returned (.tuple #[.agg #[.int .i64 (ofR l).x1, .int .i64 (ofR l).y1, .int .i64 (ofR l).x2, .int .i64 (ofR l).y2], .bool (ofB l)]) ∧ Below w.heap.size w w' := by
  cases l with
  | nil => exact of_nil A c w
  | cons p t =>
    obtain ⟨b, off, rfl, hb, hc⟩ := hA (by simp)
    exact of_some p t b off c w hb hn hc
end Go.Proofs.Ytiggjaodfmelpaa.Rc
