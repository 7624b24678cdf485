/-
  Contracts of onEdge and within of layer 3 (poly), for a list of 1 to 70 points that may be, and a point that may be. Memory that was there is left as it was.
-/
import Derived.Test.YtiggjaodfmelpaaPlTurns
import Derived.Test.YtiggjaodfmelpaaPlRay
namespace Go.Proofs.Ytiggjaodfmelpaa.Pl
open Go.RowKit Go.Proofs.Ytiggjaodfmelpaa.Pt Go.Proofs.Ytiggjaodfmelpaa.Rc Go.Proofs.Ytiggjaodfmelpaa.Pts
set_option linter.unusedVariables false

def EdgeRel (v : World) (l : List Pnt) (p : Pnt) (i : Value) (wr : World) : Prop := ∃ k : Nat, k ≤ l.length ∧ i = .int .i64 k ∧ anyTo (onF l p) k = false ∧ Below v.heap.size v wr
def OddRel (v : World) (l : List Pnt) (p : Pnt) (o i : Value) (wr : World) : Prop := ∃ k : Nat, k ≤ l.length ∧ o = .bool (oddB l p k) ∧ i = .int .i64 k ∧ Below v.heap.size v wr

set_option maxHeartbeats 2000000 in
theorem onEdge_any (l : List Pnt) (A : Option Addr) (c : Nat) (p : Pnt) (w : World) (hA : PtsAt w w.heap.size A l) (h0 : 0 < l.length) (hn : l.length ≤ 70) (hm : l.all pmay = true) (hp : mayB p.1 p.2 = true) :
    Calls Try.prog 48 #[.slice A l.length c, .agg #[.int .i64 p.1, .int .i64 p.2]] w fun e w' => e = .returned (.bool (edgeB l p)) ∧ Below w.heap.size w w' := by
  have M := Lib.hid (fun i => all_any hm h0 i)
  obtain ⟨v, hv⟩ : ∃ v, v = w.alloc (.cells #[.int .i64 p.1, .int .i64 p.2] 28) := ⟨_, rfl⟩
  have B0 : Below w.heap.size w v := by rw [hv]; exact (Below.refl _ _).alloc (Nat.le_refl _) _
  have P0 := Lib.hid (show Pt2 v w.heap.size p.1 p.2 by rw [hv]; exact Pt2.of _ _ 28 (by show (w.heap.push _)[w.heap.size]? = _; simp))
  have A0 : PtsAt v v.heap.size A l := (hA.later B0).wide B0.size
  have C := Lib.hid (fun j W (h : Below v.heap.size v W) (hj : 0 ≤ j) => at_any l A c j W ((A0.later h).wide h.size) h0 hn hj)
  obtain ⟨b, off, rfl, hb, hc⟩ := A0 (by intro h; subst h; simp at h0)
  have HC := Lib.hid hc
  obtain ⟨n, e⟩ : ∃ n, n = l.length := ⟨_, rfl⟩
  have HV := Lib.hid hv
  have HB0 := Lib.hid B0
  rw [← e] at hn h0 C ⊢
  have E := Lib.hid e
  clear e hA hm hc A0 B0
  go_enter Try.func48, Try.ntmps48
  go_wp2_with fail
  rw [← hv]
  clear hv
  go_loopw [9] (fun i wr => EdgeRel v l p i wr) (fun i _ => n - (intOf i).toNat)
  case atStart => exact ⟨0, Nat.zero_le _, rfl, rfl, Below.refl _ _⟩
  case round =>
    obtain ⟨k, hk, rfl, hno, hB⟩ := hrel
    have HN := Lib.hid hno
    clear hno
    by_cases hlt : k < n
    · have hkl : k < l.length := by rw [← E.out]; exact hlt
      obtain ⟨a, ha⟩ : ∃ a, a = at_ l (k : Int) := ⟨_, rfl⟩
      obtain ⟨q, hq⟩ : ∃ q, q = at_ l ((k : Int) + 1) := ⟨_, rfl⟩
      have c1 : wr.cell? ⟨b, off + k * 2, none⟩ = some (.int .i64 a.1) := by rw [ha, at_nat hkl]; exact (hB.cell (p := ⟨b, off + k * 2, none⟩) hb).trans (HC.out k hkl).1
      have c2 : wr.cell? ⟨b, off + k * 2 + 1, none⟩ = some (.int .i64 a.2) := by rw [ha, at_nat hkl]; exact (hB.cell (p := ⟨b, off + k * 2 + 1, none⟩) hb).trans (HC.out k hkl).2
      have m1 : mayB a.1 a.2 = true := by rw [ha]; exact M.out _
      have m2 : mayB q.1 q.2 = true := by rw [hq]; exact M.out _
      have D1 := Lib.hid (fun W h => C.out ((k : Int) + 1) W h (by omega))
      rw [← hq] at D1
      have HP := Lib.hid ha
      have HQ := Lib.hid hq
      clear ha hq C
      have K0 := Lib.hid (Kp.add2 ⟨(P0.out.later hB).1, (P0.out.later hB).2.1, hB.size, hB⟩ wr.heap.size rfl (.int .i64 a.1) (.int .i64 a.2) 28)
      have hk0 : (0 : Int) ≤ (k : Int) := by omega
      have hk1 : (k : Int) < (n : Int) := by omega
      have x1 := IntWalk.i64_in ((k : Int) + 1) (by omega)
      go_wp2_with fail
      refine wp_region_held_drew (S := (fun W => W.cell? ⟨w.heap.size, 0, none⟩ = some (.int .i64 p.1) ∧ W.cell? ⟨w.heap.size, 1, none⟩ = some (.int .i64 p.2) ∧ W.cell? ⟨wr.heap.size, 0, none⟩ = some (.int .i64 a.1) ∧ W.cell? ⟨wr.heap.size, 1, none⟩ = some (.int .i64 a.2) ∧ v.heap.size ≤ W.heap.size ∧ Below v.heap.size v W)) (by kernel_rfl) (Kp.drew4 K0.out) (fun hHeld => ?_)
      refine wpAnyH_take (i := 0) (v := ?v0) rfl (by kernel_rfl) (by kernel_rfl) (by kernel_rfl) (fun _ _ _ h => h) (Or.inl ⟨by rfl, ?y0⟩) hHeld ?r0
      case y0 => (intro W hSw; simp only [List.getElem_toArray, List.getElem_cons_zero]; go_simp; try (with_reducible rfl))
      simp only [List.getElem_toArray, List.getElem_cons_zero, Act.put, List.setIfInBounds_toArray, List.set_cons_zero, List.set_cons_succ]
      refine wpAnyH_take (i := 1) (v := ?v1) rfl (by kernel_rfl) (by kernel_rfl) (by kernel_rfl) (fun _ _ _ h => h) (Or.inl ⟨by rfl, ?y1⟩) hHeld ?r1
      case y1 => (intro W hSw; simp only [List.getElem_toArray, List.getElem_cons_succ, List.getElem_cons_zero]; go_simp; try (with_reducible rfl))
      simp only [List.getElem_toArray, List.getElem_cons_succ, List.getElem_cons_zero, Act.put, List.setIfInBounds_toArray, List.set_cons_zero, List.set_cons_succ]
      refine wpAnyH_take (i := 2) (v := ?v2) rfl (by kernel_rfl) (by kernel_rfl) (by kernel_rfl) (fun _ _ _ h => h) (Or.inl ⟨by rfl, ?y2⟩) hHeld ?r2
      case y2 => (intro W hSw; simp only [List.getElem_toArray, List.getElem_cons_succ, List.getElem_cons_zero]; go_simp; try (with_reducible rfl))
      simp only [List.getElem_toArray, List.getElem_cons_succ, List.getElem_cons_zero, Act.put, List.setIfInBounds_toArray, List.set_cons_zero, List.set_cons_succ]
      refine wpAnyH_take (i := 3) (v := ?v3) rfl (by kernel_rfl) (by kernel_rfl) (by kernel_rfl) (fun _ _ _ h => h) (Or.inl ⟨by rfl, ?y3⟩) hHeld ?r3
      case y3 => (intro W hSw; simp only [List.getElem_toArray, List.getElem_cons_succ, List.getElem_cons_zero]; go_simp; try (with_reducible rfl))
      simp only [List.getElem_toArray, List.getElem_cons_succ, List.getElem_cons_zero, Act.put, List.setIfInBounds_toArray, List.set_cons_zero, List.set_cons_succ]
      refine wpAnyH_take (i := 5) (v := ?v5) rfl (by kernel_rfl) (by kernel_rfl) (by kernel_rfl) (fun _ _ _ h => h) (Or.inl ⟨by rfl, ?y5⟩) hHeld ?r5
      case y5 => (intro W hSw; simp only [List.getElem_toArray, List.getElem_cons_succ, List.getElem_cons_zero]; go_simp; try (with_reducible rfl))
      simp only [List.getElem_toArray, List.getElem_cons_succ, List.getElem_cons_zero, Act.put, List.setIfInBounds_toArray, List.set_cons_zero, List.set_cons_succ]
      refine wpAnyH_ready (rs := [4]) (by kernel_rfl) (by simp) (AllReadyH.cons rfl (fun K hK => ?_) AllReadyH.nil)
      simp only [List.getElem_toArray, List.getElem_cons_succ, List.getElem_cons_zero]
      go_simp
      first | (go_at_call 55; refine (D1.out _ hHeld.2.2.2.2.2).mono ?_; rintro e w1 ⟨rfl, hb1⟩) | (go_at_call 56; refine (on_any _ _ _ _ _ _ _ m1 m2 hp).mono ?_; rintro e w1 ⟨rfl, hb1⟩)
      try go_wp2_with fail
      refine hK.out _ _ (Kp.keep4 (by assumption) hHeld) (fun hHeld1 => ?_)
      clear hK K hHeld
      have hHeld := hHeld1; clear hHeld1
      try simp only [List.getElem_toArray, List.getElem_cons_succ, List.getElem_cons_zero, Act.put, List.setIfInBounds_toArray, List.set_cons_zero, List.set_cons_succ]
      refine wpAnyH_ready (rs := [6]) (by kernel_rfl) (by simp) (AllReadyH.cons rfl (fun K hK => ?_) AllReadyH.nil)
      simp only [List.getElem_toArray, List.getElem_cons_succ, List.getElem_cons_zero]
      go_simp
      first | (go_at_call 55; refine (D1.out _ hHeld.2.2.2.2.2).mono ?_; rintro e w1 ⟨rfl, hb1⟩) | (go_at_call 56; refine (on_any _ _ _ _ _ _ _ m1 m2 hp).mono ?_; rintro e w1 ⟨rfl, hb1⟩)
      try go_wp2_with fail
      refine hK.out _ _ (Kp.keep4 (by assumption) hHeld) (fun hHeld1 => ?_)
      clear hK K hHeld
      have hHeld := hHeld1; clear hHeld1
      try simp only [List.getElem_toArray, List.getElem_cons_succ, List.getElem_cons_zero, Act.put, List.setIfInBounds_toArray, List.set_cons_zero, List.set_cons_succ]
      refine wpAnyH_done (by kernel_rfl) ?_ _
      have B1 := Kp.end4 hHeld
      clear hHeld c1 c2
      cases hh : onB a.1 a.2 q.1 q.2 p.1 p.2
      · go_wp2_with fail
        go_roundw
        case rel => exact ⟨k + 1, by omega, by go_num, anyTo_next HN.out (by unfold onF onP; rw [← HP.out, ← HQ.out, hh]), B1⟩
        case measure => simp [intOf]; omega
      · go_wp2_with fail
        rw [show edgeB l p = true from anyTo_yes hkl (by unfold onF onP; rw [← HP.out, ← HQ.out, hh])]
        go_ret
        exact ⟨rfl, HB0.out.trans (B1.mono HB0.out.size)⟩
    · have hkn : k = n := by have := E.out; omega
      have HT : Hid (edgeB l p = false) := Lib.hid (by unfold edgeB; rw [← E.out, ← hkn]; exact HN.out)
      clear hkn
      go_wp2_with fail
      rw [HT.out]
      go_ret
      exact ⟨rfl, HB0.out.trans (hB.mono HB0.out.size)⟩

set_option maxHeartbeats 2000000 in
theorem within_any (l : List Pnt) (A : Option Addr) (c : Nat) (p : Pnt) (w : World) (hA : PtsAt w w.heap.size A l) (h0 : 0 < l.length) (hn : l.length ≤ 70) (hm : l.all pmay = true) (hp : mayB p.1 p.2 = true) :
    Calls Try.prog 49 #[.slice A l.length c, .agg #[.int .i64 p.1, .int .i64 p.2]] w fun e w' => e = .returned (.bool (oddB l p l.length)) ∧ Below w.heap.size w w' := by
  have M := Lib.hid (fun i => all_any hm h0 i)
  obtain ⟨v, hv⟩ : ∃ v, v = w.alloc (.cells #[.int .i64 p.1, .int .i64 p.2] 28) := ⟨_, rfl⟩
  have B0 : Below w.heap.size w v := by rw [hv]; exact (Below.refl _ _).alloc (Nat.le_refl _) _
  have P0 := Lib.hid (show Pt2 v w.heap.size p.1 p.2 by rw [hv]; exact Pt2.of _ _ 28 (by show (w.heap.push _)[w.heap.size]? = _; simp))
  have A0 : PtsAt v v.heap.size A l := (hA.later B0).wide B0.size
  have C := Lib.hid (fun j W (h : Below v.heap.size v W) (hj : 0 ≤ j) => at_any l A c j W ((A0.later h).wide h.size) h0 hn hj)
  obtain ⟨b, off, rfl, hb, hc⟩ := A0 (by intro h; subst h; simp at h0)
  have HC := Lib.hid hc
  obtain ⟨n, e⟩ : ∃ n, n = l.length := ⟨_, rfl⟩
  have HV := Lib.hid hv
  have HB0 := Lib.hid B0
  rw [← e] at hn h0 C ⊢
  have E := Lib.hid e
  clear e hA hm hc A0 B0
  go_enter Try.func49, Try.ntmps49
  go_wp2_with fail
  rw [← hv]
  clear hv
  go_loopw [5, 10] (fun o i wr => OddRel v l p o i wr) (fun _ i _ => n - (intOf i).toNat)
  case atStart => exact ⟨0, Nat.zero_le _, rfl, rfl, Below.refl _ _⟩
  case round =>
    obtain ⟨k, hk, rfl, rfl, hB⟩ := hrel
    by_cases hlt : k < n
    · have hkl : k < l.length := by rw [← E.out]; exact hlt
      obtain ⟨a, ha⟩ : ∃ a, a = at_ l (k : Int) := ⟨_, rfl⟩
      obtain ⟨q, hq⟩ : ∃ q, q = at_ l ((k : Int) + 1) := ⟨_, rfl⟩
      have c1 : wr.cell? ⟨b, off + k * 2, none⟩ = some (.int .i64 a.1) := by rw [ha, at_nat hkl]; exact (hB.cell (p := ⟨b, off + k * 2, none⟩) hb).trans (HC.out k hkl).1
      have c2 : wr.cell? ⟨b, off + k * 2 + 1, none⟩ = some (.int .i64 a.2) := by rw [ha, at_nat hkl]; exact (hB.cell (p := ⟨b, off + k * 2 + 1, none⟩) hb).trans (HC.out k hkl).2
      have m1 : mayB a.1 a.2 = true := by rw [ha]; exact M.out _
      have m2 : mayB q.1 q.2 = true := by rw [hq]; exact M.out _
      have D1 := Lib.hid (fun W h => C.out ((k : Int) + 1) W h (by omega))
      rw [← hq] at D1
      have HP := Lib.hid ha
      have HQ := Lib.hid hq
      clear ha hq C
      have K0 := Lib.hid (Kp.add2 ⟨(P0.out.later hB).1, (P0.out.later hB).2.1, hB.size, hB⟩ wr.heap.size rfl (.int .i64 a.1) (.int .i64 a.2) 28)
      have hk0 : (0 : Int) ≤ (k : Int) := by omega
      have hk1 : (k : Int) < (n : Int) := by omega
      have x1 := IntWalk.i64_in ((k : Int) + 1) (by omega)
      go_wp2_with fail
      refine wp_region_held_drew (S := (fun W => W.cell? ⟨w.heap.size, 0, none⟩ = some (.int .i64 p.1) ∧ W.cell? ⟨w.heap.size, 1, none⟩ = some (.int .i64 p.2) ∧ W.cell? ⟨wr.heap.size, 0, none⟩ = some (.int .i64 a.1) ∧ W.cell? ⟨wr.heap.size, 1, none⟩ = some (.int .i64 a.2) ∧ v.heap.size ≤ W.heap.size ∧ Below v.heap.size v W)) (by kernel_rfl) (Kp.drew4 K0.out) (fun hHeld => ?_)
      refine wpAnyH_take (i := 0) (v := ?v0) rfl (by kernel_rfl) (by kernel_rfl) (by kernel_rfl) (fun _ _ _ h => h) (Or.inl ⟨by rfl, ?y0⟩) hHeld ?r0
      case y0 => (intro W hSw; simp only [List.getElem_toArray, List.getElem_cons_zero]; go_simp; try (with_reducible rfl))
      simp only [List.getElem_toArray, List.getElem_cons_zero, Act.put, List.setIfInBounds_toArray, List.set_cons_zero, List.set_cons_succ]
      refine wpAnyH_take (i := 1) (v := ?v1) rfl (by kernel_rfl) (by kernel_rfl) (by kernel_rfl) (fun _ _ _ h => h) (Or.inl ⟨by rfl, ?y1⟩) hHeld ?r1
      case y1 => (intro W hSw; simp only [List.getElem_toArray, List.getElem_cons_succ, List.getElem_cons_zero]; go_simp; try (with_reducible rfl))
      simp only [List.getElem_toArray, List.getElem_cons_succ, List.getElem_cons_zero, Act.put, List.setIfInBounds_toArray, List.set_cons_zero, List.set_cons_succ]
      refine wpAnyH_take (i := 2) (v := ?v2) rfl (by kernel_rfl) (by kernel_rfl) (by kernel_rfl) (fun _ _ _ h => h) (Or.inl ⟨by rfl, ?y2⟩) hHeld ?r2
      case y2 => (intro W hSw; simp only [List.getElem_toArray, List.getElem_cons_succ, List.getElem_cons_zero]; go_simp; try (with_reducible rfl))
      simp only [List.getElem_toArray, List.getElem_cons_succ, List.getElem_cons_zero, Act.put, List.setIfInBounds_toArray, List.set_cons_zero, List.set_cons_succ]
      refine wpAnyH_take (i := 3) (v := ?v3) rfl (by kernel_rfl) (by kernel_rfl) (by kernel_rfl) (fun _ _ _ h => h) (Or.inl ⟨by rfl, ?y3⟩) hHeld ?r3
      case y3 => (intro W hSw; simp only [List.getElem_toArray, List.getElem_cons_succ, List.getElem_cons_zero]; go_simp; try (with_reducible rfl))
      simp only [List.getElem_toArray, List.getElem_cons_succ, List.getElem_cons_zero, Act.put, List.setIfInBounds_toArray, List.set_cons_zero, List.set_cons_succ]
      refine wpAnyH_take (i := 5) (v := ?v5) rfl (by kernel_rfl) (by kernel_rfl) (by kernel_rfl) (fun _ _ _ h => h) (Or.inl ⟨by rfl, ?y5⟩) hHeld ?r5
      case y5 => (intro W hSw; simp only [List.getElem_toArray, List.getElem_cons_succ, List.getElem_cons_zero]; go_simp; try (with_reducible rfl))
      simp only [List.getElem_toArray, List.getElem_cons_succ, List.getElem_cons_zero, Act.put, List.setIfInBounds_toArray, List.set_cons_zero, List.set_cons_succ]
      refine wpAnyH_ready (rs := [4]) (by kernel_rfl) (by simp) (AllReadyH.cons rfl (fun K hK => ?_) AllReadyH.nil)
      simp only [List.getElem_toArray, List.getElem_cons_succ, List.getElem_cons_zero]
      go_simp
      first | (go_at_call 55; refine (D1.out _ hHeld.2.2.2.2.2).mono ?_; rintro e w1 ⟨rfl, hb1⟩) | (go_at_call 59; refine (crossesRay_any a q p _ m1 m2 hp).mono ?_; rintro e w1 ⟨rfl, hb1⟩)
      try go_wp2_with fail
      refine hK.out _ _ (Kp.keep4 (by assumption) hHeld) (fun hHeld1 => ?_)
      clear hK K hHeld
      have hHeld := hHeld1; clear hHeld1
      try simp only [List.getElem_toArray, List.getElem_cons_succ, List.getElem_cons_zero, Act.put, List.setIfInBounds_toArray, List.set_cons_zero, List.set_cons_succ]
      refine wpAnyH_ready (rs := [6]) (by kernel_rfl) (by simp) (AllReadyH.cons rfl (fun K hK => ?_) AllReadyH.nil)
      simp only [List.getElem_toArray, List.getElem_cons_succ, List.getElem_cons_zero]
      go_simp
      first | (go_at_call 55; refine (D1.out _ hHeld.2.2.2.2.2).mono ?_; rintro e w1 ⟨rfl, hb1⟩) | (go_at_call 59; refine (crossesRay_any a q p _ m1 m2 hp).mono ?_; rintro e w1 ⟨rfl, hb1⟩)
      try go_wp2_with fail
      refine hK.out _ _ (Kp.keep4 (by assumption) hHeld) (fun hHeld1 => ?_)
      clear hK K hHeld
      have hHeld := hHeld1; clear hHeld1
      try simp only [List.getElem_toArray, List.getElem_cons_succ, List.getElem_cons_zero, Act.put, List.setIfInBounds_toArray, List.set_cons_zero, List.set_cons_succ]
      refine wpAnyH_done (by kernel_rfl) ?_ _
      have B1 := Kp.end4 hHeld
      clear hHeld c1 c2
      cases hh : rayB a q p
      · go_wp2_with fail
        go_roundw
        case rel => exact ⟨k + 1, by omega, by rw [oddB_no (by rw [← HP.out, ← HQ.out, hh])], by go_num, B1⟩
        case measure => simp [intOf]; omega
      · go_wp2_with fail
        go_roundw
        case rel => exact ⟨k + 1, by omega, by rw [oddB_yes (by rw [← HP.out, ← HQ.out, hh])], by go_num, B1⟩
        case measure => simp [intOf]; omega
    · have hkn : k = n := by have := E.out; omega
      have HT : Hid (oddB l p l.length = oddB l p k) := Lib.hid (by rw [← E.out, ← hkn])
      clear hkn
      go_wp2_with fail
      rw [E.out, HT.out]
      go_ret
      exact ⟨rfl, HB0.out.trans (hB.mono HB0.out.size)⟩
end Go.Proofs.Ytiggjaodfmelpaa.Pl
