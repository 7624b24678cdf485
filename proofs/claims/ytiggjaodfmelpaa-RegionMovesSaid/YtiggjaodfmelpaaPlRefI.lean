/-
  The contract of the document's answer Inside of layer 3 (poly), for a list of 1 to 70 points that may be, and a point that may be. Memory that was there is left as it was.
-/
import Derived.Test.YtiggjaodfmelpaaPlTop
import Derived.Test.YtiggjaodfmelpaaPtRef
namespace Go.Proofs.Ytiggjaodfmelpaa.Pl
open Go.RowKit Go.Proofs.Ytiggjaodfmelpaa.Pt Go.Proofs.Ytiggjaodfmelpaa.Rc Go.Proofs.Ytiggjaodfmelpaa.Pts
set_option linter.unusedVariables false

def Pc (W : World) (g : Nat) (x y : Int) : Prop := W.cell? ⟨g, 0, none⟩ = some (.int .i64 x) ∧ W.cell? ⟨g, 1, none⟩ = some (.int .i64 y)
theorem Pc.alloc {W : World} {g : Nat} {x y : Int} (h : Pc W g x y) (o : Obj) : Pc (W.alloc o) g x y :=
  ⟨cell_later ((Below.refl _ _).alloc (Nat.le_refl _) _) h.1, cell_later ((Below.refl _ _).alloc (Nat.le_refl _) _) h.2⟩
theorem Pc.far {W : World} {g : Nat} {x y : Int} (h : Pc W g x y) {p : Addr} (v : Value) (hp : p.block ≠ g) : Pc (W.setCell p v) g x y := ⟨(cell_far W v hp).trans h.1, (cell_far W v hp).trans h.2⟩
theorem Pt2.pc {W : World} {g : Nat} {x y : Int} (h : Pt2 W g x y) : Pc W g x y := ⟨h.1, h.2.1⟩
theorem Pt2.new (W : World) (x y : Int) (t : TypeId) : Pt2 (W.alloc (.cells #[.int .i64 x, .int .i64 y] t)) W.heap.size x y := Pt2.of x y t (by show (W.heap.push _)[W.heap.size]? = _; simp)
theorem Pt2.alloc {W : World} {g : Nat} {x y : Int} (h : Pt2 W g x y) (o : Obj) : Pt2 (W.alloc o) g x y := h.later ((Below.refl _ _).alloc (Nat.le_refl _) _)

def RaysRel (v : World) (l : List Pnt) (p : Pnt) (o i : Value) (wr : World) : Prop := ∃ k : Nat, k ≤ l.length ∧ o = .int .i64 (rays k (at_ l) p) ∧ i = .int .i64 k ∧ anyTo (onF l p) k = false ∧ Below v.heap.size v wr

set_option maxRecDepth 100000 in
set_option maxHeartbeats 4000000 in
theorem inside_any (l : List Pnt) (A : Option Addr) (c : Nat) (p : Pnt) (w : World) (hA : PtsAt w w.heap.size A l) (h0 : 0 < l.length) (hn : l.length ≤ 70) (hm : l.all pmay = true) (hp : mayB p.1 p.2 = true) :
    Calls Try.prog 31 #[.slice A l.length c, .agg #[.int .i64 p.1, .int .i64 p.2]] w fun e w' => e = .returned (.bool (insB l p)) ∧ Below w.heap.size w w' := by
  have M := Lib.hid (fun i => all_any hm h0 i)
  obtain ⟨v, hv⟩ : ∃ v, v = w.alloc (.cells #[.int .i64 p.1, .int .i64 p.2] 28) := ⟨_, rfl⟩
  have B0 : Below w.heap.size w v := by rw [hv]; exact (Below.refl _ _).alloc (Nat.le_refl _) _
  have P0 := Lib.hid (show Pt2 v w.heap.size p.1 p.2 by rw [hv]; exact Pt2.of _ _ 28 (by show (w.heap.push _)[w.heap.size]? = _; simp))
  have A0 : PtsAt v v.heap.size A l := (hA.later B0).wide B0.size
  have HA := Lib.hid A0
  have H0 := Lib.hid h0
  obtain ⟨b, off, rfl, hb, hc⟩ := A0 (by intro h; subst h; simp at h0)
  have HC := Lib.hid hc
  obtain ⟨n, e⟩ : ∃ n, n = l.length := ⟨_, rfl⟩
  have HB0 := Lib.hid B0
  rw [← e] at hn h0 ⊢
  have E := Lib.hid e
  clear e hA hm hc A0 B0
  have hn0 : (0 : Int) < (n : Int) := by omega
  have hnz : ¬ n = 0 := by omega
  go_enter Try.func31, Try.ntmps31
  go_wp2_with fail
  rw [← hv]
  clear hv
  go_loopw [5, 6] (fun o i wr => RaysRel v l p o i wr) (fun _ i _ => n - (intOf i).toNat)
  case atStart => exact ⟨0, Nat.zero_le _, rfl, rfl, rfl, Below.refl _ _⟩
  case round =>
    obtain ⟨k, hk, rfl, rfl, hno, hB⟩ := hrel
    have HN := Lib.hid hno
    clear hno
    obtain ⟨cnt, hcnt⟩ : ∃ cnt, cnt = rays k (at_ l) p := ⟨_, rfl⟩
    have hcb := rays_bd (at_ l) p k
    rw [← hcnt] at hcb ⊢
    obtain ⟨_, _⟩ := hcb
    have HCN := Lib.hid hcnt
    clear hcnt
    by_cases hlt : k < n
    · have hkl : k < l.length := by rw [← E.out]; exact hlt
      obtain ⟨b1, off1, r1, qx, qy, eA, _, hr1, hrl1, hX1, hY1, d1, d2⟩ := at_cell (HA.out.later hB) H0.out ((k : Int) + 1) (by omega)
      simp at eA
      obtain ⟨rfl, rfl⟩ := eA
      obtain ⟨a, ha⟩ : ∃ a, a = at_ l (k : Int) := ⟨_, rfl⟩
      obtain ⟨q, hq⟩ : ∃ q, q = at_ l ((k : Int) + 1) := ⟨_, rfl⟩
      rw [← hq] at hX1 hY1
      subst hX1 hY1
      have c1 : wr.cell? ⟨b, off + k * 2, none⟩ = some (.int .i64 a.1) := by rw [ha, at_nat hkl]; exact (hB.cell (p := ⟨b, off + k * 2, none⟩) hb).trans (HC.out k hkl).1
      have c2 : wr.cell? ⟨b, off + k * 2 + 1, none⟩ = some (.int .i64 a.2) := by rw [ha, at_nat hkl]; exact (hB.cell (p := ⟨b, off + k * 2 + 1, none⟩) hb).trans (HC.out k hkl).2
      have m1 : mayB a.1 a.2 = true := by rw [ha]; exact M.out _
      have m2 : mayB q.1 q.2 = true := by rw [hq]; exact M.out _
      have HP := Lib.hid ha
      have HQ := Lib.hid hq
      clear ha hq
      have K2 := Kp.add2 ⟨(P0.out.later hB).1, (P0.out.later hB).2.1, hB.size, hB⟩ wr.heap.size rfl (.int .i64 a.1) (.int .i64 a.2) 28
      have K3 := Lib.hid (Kp.add4 K2 (wr.heap.size + 1) (by simp) (.int .i64 q.1) (.int .i64 q.2) 28)
      have b1 : Below wr.heap.size wr (wr.alloc (.cells #[.int .i64 a.1, .int .i64 a.2] 28)) := (Below.refl _ _).alloc (Nat.le_refl _) _
      have d5 := cell_later b1 d1
      have d6 := cell_later b1 d2
      clear b1 K2 d1 d2
      have hk0 : (0 : Int) ≤ (k : Int) := by omega
      have hk1 : (k : Int) < (n : Int) := by omega
      rw [← E.out] at hr1 hrl1
      have hr10 : (0 : Int) ≤ (r1 : Int) := by omega
      have hr11 : (r1 : Int) < (n : Int) := by omega
      have z0 := K3.out
      go_wp2_with fail
      refine (refOn_any _ _ _ _ _ _ _ m1 m2 hp).mono ?_
      rintro e w4 ⟨rfl, hb4⟩
      have K4 := Kp.keep6 hb4 K3.out
      have hz4 := hb4.size
      simp at hz4
      clear hb4 K3 c1 c2 d5 d6 z0
      have B4 := Kp.end6 K4
      obtain ⟨y0, y1, y2, y3, y4, y5, _, _⟩ := K4
      obtain ⟨g, hg⟩ : ∃ g, g = wr.heap.size := ⟨_, rfl⟩
      rw [← hg] at y2 y3 y4 y5 hz4 ⊢
      clear hg
      have hgz : w.heap.size < w4.heap.size := by have := HB0.out.size; have := World.block_lt_of_cell? _ ⟨w.heap.size, 0, none⟩ y0; exact this
      have f0 : Pc w4 w.heap.size p.1 p.2 := ⟨y0, y1⟩
      have f1 : Pc w4 g a.1 a.2 := ⟨y2, y3⟩
      have f2 : Pc w4 (g + 1) q.1 q.2 := ⟨y4, y5⟩
      clear y0 y1 y2 y3 y4 y5
      obtain ⟨o1, ho1⟩ : ∃ o, o = Obj.cells #[.int .i64 a.1, .int .i64 a.2] 28 := ⟨_, rfl⟩
      obtain ⟨o2, ho2⟩ : ∃ o, o = Obj.cells #[.int .i64 q.1, .int .i64 q.2] 28 := ⟨_, rfl⟩
      have f3 := f2.alloc o1
      have f4 := (f0.alloc o1).alloc o2
      have f5 := (f1.alloc o1).alloc o2
      have f6 := f3.alloc o2
      have f7 := (f1.alloc o2).alloc o2
      have f8 := (f0.alloc o2).alloc o1
      rw [ho1] at f3
      rw [ho2] at f7
      rw [ho1, ho2] at f4 f5 f6 f8
      clear ho1 ho2 o1 o2
      obtain ⟨_, _⟩ := f0; obtain ⟨_, _⟩ := f1; obtain ⟨_, _⟩ := f2; obtain ⟨_, _⟩ := f3; obtain ⟨_, _⟩ := f4; obtain ⟨_, _⟩ := f5; obtain ⟨_, _⟩ := f6; obtain ⟨_, _⟩ := f7; obtain ⟨_, _⟩ := f8
      cases hon : onB a.1 a.2 q.1 q.2 p.1 p.2
      · by_cases hs : q.2 < a.2
        · have RB0 : rayB a q p = upB q a p := by unfold rayB; rw [if_pos hs]
          by_cases u1 : q.2 ≤ p.2
          · by_cases u2 : p.2 < a.2
            · cases ht : (turnI q.1 q.2 a.1 a.2 p.1 p.2 == 1)
              · have RB := Lib.hid (show rayB a q p = false by rw [RB0]; unfold upB turnP; rw [ht]; simp)
                clear RB0
                go_wp2_with fail
                refine (refTurn_any _ _ _ _ _ _ _ m2 m1 hp).mono ?_
                rintro e w5 ⟨rfl, hb5⟩
                have B5 := ((B4.alloc B4.size _).alloc (by have := B4.size; simp; omega) _).trans (hb5.mono (by have := B4.size; simp; omega))
                clear hb5
                go_wp2_with fail
                go_roundw
                case rel => exact ⟨k + 1, by omega, by rw [rays_succ, ← HP.out, ← HQ.out, show rayI a q p = 0 by unfold rayI; rw [RB.out]; rfl, Int.add_zero, HCN.out], by go_num, anyTo_next HN.out (by unfold onF onP; rw [← HP.out, ← HQ.out, hon]), B5⟩
                case measure => simp [intOf]; omega
              · have RB := Lib.hid (show rayB a q p = true by rw [RB0]; unfold upB turnP; rw [ht, decide_eq_true u1, decide_eq_true u2]; rfl)
                clear RB0
                go_wp2_with fail
                refine (refTurn_any _ _ _ _ _ _ _ m2 m1 hp).mono ?_
                rintro e w5 ⟨rfl, hb5⟩
                have B5 := ((B4.alloc B4.size _).alloc (by have := B4.size; simp; omega) _).trans (hb5.mono (by have := B4.size; simp; omega))
                clear hb5
                go_wp2_with fail
                go_roundw
                case rel => exact ⟨k + 1, by omega, by rw [rays_succ, ← HP.out, ← HQ.out, show rayI a q p = 1 by unfold rayI; rw [RB.out]; rfl, HCN.out], by go_num, anyTo_next HN.out (by unfold onF onP; rw [← HP.out, ← HQ.out, hon]), B5⟩
                case measure => simp [intOf]; omega
            · have RB := Lib.hid (show rayB a q p = false by rw [RB0]; unfold upB; rw [decide_eq_false u2]; simp)
              clear RB0
              go_wp2_with fail
              go_roundw
              case rel => exact ⟨k + 1, by omega, by rw [rays_succ, ← HP.out, ← HQ.out, show rayI a q p = 0 by unfold rayI; rw [RB.out]; rfl, Int.add_zero, HCN.out], by go_num, anyTo_next HN.out (by unfold onF onP; rw [← HP.out, ← HQ.out, hon]), ((B4.alloc B4.size _).alloc (by have := B4.size; simp; omega) _)⟩
              case measure => simp [intOf]; omega
          · have RB := Lib.hid (show rayB a q p = false by rw [RB0]; unfold upB; rw [decide_eq_false u1]; simp)
            clear RB0
            go_wp2_with fail
            go_roundw
            case rel => exact ⟨k + 1, by omega, by rw [rays_succ, ← HP.out, ← HQ.out, show rayI a q p = 0 by unfold rayI; rw [RB.out]; rfl, Int.add_zero, HCN.out], by go_num, anyTo_next HN.out (by unfold onF onP; rw [← HP.out, ← HQ.out, hon]), ((B4.alloc B4.size _).alloc (by have := B4.size; simp; omega) _)⟩
            case measure => simp [intOf]; omega
        · have RB0 : rayB a q p = upB a q p := by unfold rayB; rw [if_neg hs]
          by_cases u1 : a.2 ≤ p.2
          · by_cases u2 : p.2 < q.2
            · cases ht : (turnI a.1 a.2 q.1 q.2 p.1 p.2 == 1)
              · have RB := Lib.hid (show rayB a q p = false by rw [RB0]; unfold upB turnP; rw [ht]; simp)
                clear RB0
                go_wp2_with fail
                refine (refTurn_any _ _ _ _ _ _ _ m1 m2 hp).mono ?_
                rintro e w5 ⟨rfl, hb5⟩
                have B5 := ((B4.alloc B4.size _).alloc (by have := B4.size; simp; omega) _).trans (hb5.mono (by have := B4.size; simp; omega))
                clear hb5
                go_wp2_with fail
                go_roundw
                case rel => exact ⟨k + 1, by omega, by rw [rays_succ, ← HP.out, ← HQ.out, show rayI a q p = 0 by unfold rayI; rw [RB.out]; rfl, Int.add_zero, HCN.out], by go_num, anyTo_next HN.out (by unfold onF onP; rw [← HP.out, ← HQ.out, hon]), B5⟩
                case measure => simp [intOf]; omega
              · have RB := Lib.hid (show rayB a q p = true by rw [RB0]; unfold upB turnP; rw [ht, decide_eq_true u1, decide_eq_true u2]; rfl)
                clear RB0
                go_wp2_with fail
                refine (refTurn_any _ _ _ _ _ _ _ m1 m2 hp).mono ?_
                rintro e w5 ⟨rfl, hb5⟩
                have B5 := ((B4.alloc B4.size _).alloc (by have := B4.size; simp; omega) _).trans (hb5.mono (by have := B4.size; simp; omega))
                clear hb5
                go_wp2_with fail
                go_roundw
                case rel => exact ⟨k + 1, by omega, by rw [rays_succ, ← HP.out, ← HQ.out, show rayI a q p = 1 by unfold rayI; rw [RB.out]; rfl, HCN.out], by go_num, anyTo_next HN.out (by unfold onF onP; rw [← HP.out, ← HQ.out, hon]), B5⟩
                case measure => simp [intOf]; omega
            · have RB := Lib.hid (show rayB a q p = false by rw [RB0]; unfold upB; rw [decide_eq_false u2]; simp)
              clear RB0
              go_wp2_with fail
              go_roundw
              case rel => exact ⟨k + 1, by omega, by rw [rays_succ, ← HP.out, ← HQ.out, show rayI a q p = 0 by unfold rayI; rw [RB.out]; rfl, Int.add_zero, HCN.out], by go_num, anyTo_next HN.out (by unfold onF onP; rw [← HP.out, ← HQ.out, hon]), ((B4.alloc B4.size _).alloc (by have := B4.size; simp; omega) _)⟩
              case measure => simp [intOf]; omega
          · have RB := Lib.hid (show rayB a q p = false by rw [RB0]; unfold upB; rw [decide_eq_false u1]; simp)
            clear RB0
            go_wp2_with fail
            go_roundw
            case rel => exact ⟨k + 1, by omega, by rw [rays_succ, ← HP.out, ← HQ.out, show rayI a q p = 0 by unfold rayI; rw [RB.out]; rfl, Int.add_zero, HCN.out], by go_num, anyTo_next HN.out (by unfold onF onP; rw [← HP.out, ← HQ.out, hon]), ((B4.alloc B4.size _).alloc (by have := B4.size; simp; omega) _)⟩
            case measure => simp [intOf]; omega
      · go_wp2_with fail
        rw [show insB l p = true by unfold insB edgeB; rw [anyTo_yes hkl (by unfold onF onP; rw [← HP.out, ← HQ.out, hon])]; rfl]
        go_ret
        exact ⟨rfl, HB0.out.trans (B4.mono HB0.out.size)⟩
    · have hkn : k = n := by have := E.out; omega
      have HT : Hid (insB l p = decide (cnt % 2 = 1)) := Lib.hid (by unfold insB edgeB oddB; rw [HCN.out, hkn, ← E.out, anyTo_le HN.out (by omega)]; rfl)
      clear hkn
      go_wp2_with fail
      rw [HT.out]
      go_ret
      have e : (cnt % 2 == 1) = decide (cnt % 2 = 1) := by rw [Bool.eq_iff_iff]; simp
      exact ⟨by simp [e], HB0.out.trans (hB.mono HB0.out.size)⟩
end Go.Proofs.Ytiggjaodfmelpaa.Pl
