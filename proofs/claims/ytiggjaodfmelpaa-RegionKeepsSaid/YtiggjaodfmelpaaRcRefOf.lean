/-
  The contract of the document's answer Of of layer 2 (rect), for any points (at most 300): the least rectangle that has them all, or a zero one. Memory that was there is left as it was.
-/
import Derived.Test.YtiggjaodfmelpaaRcOf
import Derived.StillTailTactics
import Derived.Test.YtiggjaodfmelpaaRcJoin
import Derived.Test.YtiggjaodfmelpaaPts
import Derived.Handy
namespace Go.Proofs.Ytiggjaodfmelpaa.Rc
open Go.RowKit Go.Proofs.Ytiggjaodfmelpaa.Pt Go.Proofs.Ytiggjaodfmelpaa.Pts

theorem refOf_nil (A : Option Addr) (c : Nat) (w : World) : Calls Try.prog 32 #[.slice A 0 c] w fun e w' => e = .returned (.tuple #[.agg #[.int .i64 0, .int .i64 0, .int .i64 0, .int .i64 0], .bool false]) ∧ Below w.heap.size w w' := by
  go_enter Try.func32, Try.ntmps32
  go_wp2
  refine bodyPost_ret (v := .tuple #[.agg #[.int .i64 0, .int .i64 0, .int .i64 0, .int .i64 0], .bool false]) (by simp [results, Try.results32, go_sem]) rfl ⟨rfl, ?_⟩
  exact (Below.refl _ _).alloc (Nat.le_refl _) _

theorem first_may {p : Int × Int} {t : List (Int × Int)} {k : Nat} (hk : k < (p :: t).length) (h : ((p :: t).take k).all pmay = true) (h1 : pmay (p :: t)[k] = true) : pmay p = true := by
  have := all_succ hk h h1
  rw [List.take_succ_cons, List.all_cons, Bool.and_eq_true] at this
  exact this.1

set_option maxHeartbeats 2000000 in
theorem refOf_some (p : Int × Int) (t : List (Int × Int)) (b off c : Nat) (w : World) (hBb : b < w.heap.size) (hn : (p :: t).length ≤ 300)
    (hc : ∀ (k : Nat) (h : k < (p :: t).length), w.cell? ⟨b, off + k * 2, none⟩ = some (.int .i64 (p :: t)[k].1) ∧ w.cell? ⟨b, off + k * 2 + 1, none⟩ = some (.int .i64 (p :: t)[k].2)) :
    Calls Try.prog 32 #[.slice (some ⟨b, off, none⟩) (p :: t).length c] w fun e w' => e = .returned (.tuple #[.agg #[.int .i64 (ofR (p :: t)).x1, .int .i64 (ofR (p :: t)).y1, .int .i64 (ofR (p :: t)).x2, .int .i64 (ofR (p :: t)).y2], .bool (ofB (p :: t))]) ∧ Below w.heap.size w w' := by
  obtain ⟨n, e⟩ : ∃ n, n = (p :: t).length := ⟨_, rfl⟩
  have h0 : 0 < n := by simp [e]
  have q1 : w.cell? ⟨b, off, none⟩ = some (.int .i64 p.1) := (hc 0 (by simp)).1
  have q2 : w.cell? ⟨b, off + 1, none⟩ = some (.int .i64 p.2) := (hc 0 (by simp)).2
  have HC := Lib.hid hc
  rw [← e] at hn ⊢
  have E := Lib.hid e
  clear e hc
  go_enter Try.func32, Try.ntmps32
  go_wp2_with fail
  go_region_held3 (fun W => W.cell? ⟨b, off, none⟩ = some (.int .i64 p.1) ∧ W.cell? ⟨b, off + 1, none⟩ = some (.int .i64 p.2))
    (go_keep)
    (fail)
  go_wp2_with fail
  obtain ⟨g, hg⟩ : ∃ g, g = w.heap.size + 1 := ⟨_, rfl⟩
  rw [← hg]
  have hz1 : w.heap.size < g := by omega
  have G := Lib.hid hg
  clear hg
  go_loopw [5] (fun i wr => OfRel w g p (p :: t) i wr) (fun i _ => n - (intOf i).toNat)
  case atStart =>
    have hg := G.out; subst hg
    refine ⟨0, Nat.zero_le _, rfl, rfl, ?_, ?_, ?_⟩
    · exact Rc4.drew ((Rc4.new w 0 0 0 0 23).alloc _)
    · rw [accR_zero]
      have h := Rc4.new (w.alloc (.cells #[.int .i64 0, .int .i64 0, .int .i64 0, .int .i64 0] 23)) p.1 p.2 p.1 p.2 23
      rw [World.size_alloc] at h
      exact Rc4.drew h
    · exact (((Below.refl w.heap.size w).alloc (Nat.le_refl _) _).alloc (by simp) _).drew
  case round =>
    obtain ⟨k, hk, rfl, hall, hZ, hR, hB⟩ := hrel
    by_cases hlt : k < n
    · have hkl : k < (p :: t).length := by rw [← E.out]; exact hlt
      obtain ⟨X, hX⟩ : ∃ X, X = (p :: t)[k].1 := ⟨_, rfl⟩
      obtain ⟨Y, hY⟩ : ∃ Y, Y = (p :: t)[k].2 := ⟨_, rfl⟩
      have c1 : wr.cell? ⟨b, off + k * 2, none⟩ = some (.int .i64 X) := by rw [hX]; exact (hB.cell (p := ⟨b, off + k * 2, none⟩) hBb).trans (HC.out k hkl).1
      have c2 : wr.cell? ⟨b, off + k * 2 + 1, none⟩ = some (.int .i64 Y) := by rw [hY]; exact (hB.cell (p := ⟨b, off + k * 2 + 1, none⟩) hBb).trans (HC.out k hkl).2
      have HX := Lib.hid hX
      have HY := Lib.hid hY
      have HA := Lib.hid hall
      clear hX hY hall
      have hk0 : (0 : Int) ≤ (k : Int) := by omega
      have hk1 : (k : Int) < (n : Int) := by omega
      go_wp2_with fail
      refine (refMay_any _ _ _).mono ?_
      rintro e w2 ⟨rfl, hb2⟩
      have Z2 := hZ.later hb2
      have R2 := hR.later hb2
      have B2 : Below w.heap.size w w2 := hB.trans (hb2.mono hB.size)
      have p1 : w2.cell? ⟨b, off + k * 2, none⟩ = some (.int .i64 X) := cell_later hb2 c1
      have p2 : w2.cell? ⟨b, off + k * 2 + 1, none⟩ = some (.int .i64 Y) := cell_later hb2 c2
      clear hb2 hZ hR c1 c2
      cases hm : mayB X Y
      · have Z := Z2
        obtain ⟨z0, z1, z2, z3, f0, f1, f2, f3⟩ := Z
        go_wp2_with fail
        have hno : (p :: t).all pmay = false := all_no hkl (by unfold pmay; rw [← HX.out, ← HY.out]; exact hm)
        rw [ofR_no hno, ofB_no hno]
        refine bodyPost_ret (v := .tuple #[.agg #[.int .i64 0, .int .i64 0, .int .i64 0, .int .i64 0], .bool false]) ?_ rfl ⟨rfl, ?_⟩
        · simp [results, Try.results32, go_sem, *]
        · exact (((B2.setCell (by simp) _).setCell (by simp) _).setCell (by simp) _).setCell (by simp) _
      · obtain ⟨r, hr⟩ : ∃ r, r = accR p (p :: t) k := ⟨_, rfl⟩
        rw [← hr] at R2
        have HR := Lib.hid hr
        clear hr
        have R := R2
        obtain ⟨z0, z1, z2, z3, f0, f1, f2, f3⟩ := R
        go_wp2_with fail
        have hok : okR r := by rw [HR.out]; exact okR_acc (first_may hkl HA.out (by unfold pmay; rw [← HX.out, ← HY.out]; exact hm)) HA.out
        obtain ⟨_, _, k1, k2⟩ := hok
        obtain ⟨k3, k4⟩ := mayB_iff.1 hm
        have C := Lib.hid (fun W => refJoin_any r.x1 r.y1 r.x2 r.y2 X Y X Y W k1 k2 k3 k4)
        clear k1 k2 k3 k4
        go_still_tail 22, (by kernel_rfl)
        go_wp2_with fail
        refine (C.out _).mono ?_
        rintro e w4 ⟨rfl, hb4⟩
        have R4 := (Rc4.drew R2).later hb4
        have Z4 := (Rc4.drew Z2).later hb4
        have B4 := B2.drew.trans (hb4.mono B2.size)
        clear hb4
        have R4' := R4
        obtain ⟨x0, x1, x2, x3, h0, h1, h2, h3⟩ := R4'
        go_wp2_with fail
        go_roundw
        case rel => exact ⟨k + 1, by omega, by go_num, all_succ hkl HA.out (by unfold pmay; rw [← HX.out, ← HY.out]; exact hm), (((Z4.far _ (by simp; omega)).far _ (by simp; omega)).far _ (by simp; omega)).far _ (by simp; omega), rel_step hkl HR.out HX.out HY.out (R4.set _ _ _ _), (((B4.setCell (by simp; omega) _).setCell (by simp; omega) _).setCell (by simp; omega) _).setCell (by simp; omega) _⟩
        case measure => simp [intOf]; omega
    · have hkn : k = n := by have := E.out; omega
      obtain ⟨hyes, hacc⟩ := rel_end E.out hkn hall
      rw [hacc] at hR
      obtain ⟨r, hr⟩ : ∃ r, r = ofR (p :: t) := ⟨_, rfl⟩
      rw [← hr] at hR
      have HR := Lib.hid hr
      have HY := Lib.hid hyes
      clear hall hkn hr hacc hyes
      have R := hR
      have Z := hZ
      obtain ⟨y0, y1, y2, y3, g0, g1, g2, g3⟩ := R
      obtain ⟨z0, z1, z2, z3, f0, f1, f2, f3⟩ := Z
      go_wp2_with fail
      rw [← HR.out, ofB_yes HY.out]
      refine bodyPost_ret (v := .tuple #[.agg #[.int .i64 r.x1, .int .i64 r.y1, .int .i64 r.x2, .int .i64 r.y2], .bool true]) ?_ rfl ⟨rfl, ?_⟩
      · simp [results, Try.results32, go_sem, *]
      · exact (((hB.setCell (by simp) _).setCell (by simp) _).setCell (by simp) _).setCell (by simp) _

theorem refOf_any (l : List (Int × Int)) (A : Option Addr) (c : Nat) (w : World) (hA : PtsAt w w.heap.size A l) (hn : l.length ≤ 300) :
    Calls Try.prog 32 #[.slice A l.length c] w fun e w' => e = .returned (.tuple #[.agg #[.int .i64 (ofR l).x1, .int .i64 (ofR l).y1, .int .i64 (ofR l).x2, .int .i64 (ofR l).y2], .bool (ofB l)]) ∧ Below w.heap.size w w' := by
  cases l with
  | nil => exact refOf_nil A c w
  | cons p t =>
    obtain ⟨b, off, rfl, hb, hc⟩ := hA (by simp)
    exact refOf_some p t b off c w hb hn hc
end Go.Proofs.Ytiggjaodfmelpaa.Rc
