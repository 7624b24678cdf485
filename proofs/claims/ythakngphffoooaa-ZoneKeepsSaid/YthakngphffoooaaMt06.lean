/-
  Contracts of Simple of layer 3 (poly), for any list of at most 70 points, and of In, for a list of 1 to 70 points that may be and a point that may be. Memory that was there is left as it was.
-/
import Derived.Test.YthakngphffoooaaMt05
import Derived.Test.YthakngphffoooaaMt03
import Derived.Test.YthakngphffoooaaMt04
import Derived.Test.YthakngphffoooaaMt01
import Derived.Outline
import Derived.Deep.RegionHeld3
import Derived.IntWalk
import Derived.Deep.MidRow
import Derived.Handy
/-
  The contract of meetsItself of layer 3 (poly), for a list of 1 to 70 points that may be. Memory that was there is left as it was.
-/
namespace Go.Proofs.Ythakngphffoooaa.Pl
open Go.RowKit Go.Proofs.Ythakngphffoooaa.Pt Go.Proofs.Ythakngphffoooaa.Rc Go.Proofs.Ythakngphffoooaa.Pts
set_option linter.unusedVariables false

theorem anyTo_le {f : Nat → Bool} {j n : Nat} (h : anyTo f j = false) (hn : n ≤ j) : anyTo f n = false := anyTo_no.2 fun i hi => anyTo_no.1 h i (by omega)
def MeetRel (w : World) (l : List Pnt) (i : Value) (wr : World) : Prop := ∃ k : Nat, k ≤ l.length ∧ i = .int .i64 k ∧ anyTo (fun i => anyTo (meetF l i) l.length) k = false ∧ Below w.heap.size w wr
def MeetIn (w : World) (l : List Pnt) (k : Nat) (i : Value) (wr : World) : Prop := ∃ j : Nat, j ≤ 73 ∧ k + 2 ≤ j ∧ i = .int .i64 j ∧ anyTo (meetF l k) j = false ∧ Below w.heap.size w wr
theorem meet_start (l : List Pnt) (k : Nat) : anyTo (meetF l k) (k + 2) = false := anyTo_no.2 fun i hi => by unfold meetF; rw [decide_eq_false (by omega)]; rfl

set_option maxHeartbeats 4000000 in
theorem meets_any (l : List Pnt) (A : Option Addr) (c : Nat) (w : World) (hA : PtsAt w w.heap.size A l) (h0 : 0 < l.length) (hn : l.length ≤ 70) (hm : l.all pmay = true) :
    Calls Try.prog 64 #[.slice A l.length c] w fun e w' => e = .returned (.bool (meetsB l)) ∧ Below w.heap.size w w' := by
  have M := Lib.hid (fun i => all_any hm h0 i)
  have C := Lib.hid (fun j W (h : Below w.heap.size w W) (hj : 0 ≤ j) => at_any l A c j W ((hA.later h).wide h.size) h0 hn hj)
  have F0 := Lib.hid (fun i j W (hj : j ≤ 200) => follows_any A l.length c i j W h0 hn hj)
  obtain ⟨b, off, rfl, hb, hc⟩ := hA (by intro h; subst h; simp at h0)
  have HC := Lib.hid hc
  obtain ⟨n, e⟩ : ∃ n, n = l.length := ⟨_, rfl⟩
  rw [← e] at hn h0 C F0 ⊢
  have E := Lib.hid e
  clear e hA hm hc
  go_enter Try.func64, Try.ntmps64
  go_wp2_with fail
  go_loopw [7] (fun i wr => MeetRel w l i wr) (fun i _ => n - (intOf i).toNat)
  case atStart => exact ⟨0, Nat.zero_le _, rfl, rfl, Below.refl _ _⟩
  case round =>
    obtain ⟨k, hk, rfl, hno, hB⟩ := hrel
    have HN := Lib.hid hno
    clear hno
    by_cases hlt : k < n
    · have hkl : k < l.length := by rw [← E.out]; exact hlt
      have hk0 : (0 : Int) ≤ (k : Int) := by omega
      have hk1 : (k : Int) < (n : Int) := by omega
      go_wp2_with fail
      go_loopw [4] (fun i wr => MeetIn w l k i wr) (fun i _ => 100 - (intOf i).toNat)
      case atStart => exact ⟨k + 2, by omega, Nat.le_refl _, by go_num, meet_start l k, hB⟩
      case round =>
        clear hB
        obtain ⟨j, hj7, hkj, rfl, hno, hB⟩ := hrel
        have HM := Lib.hid hno
        clear hno
        by_cases hjt : j < n
        · have hjl : j < l.length := by rw [← E.out]; exact hjt
          obtain ⟨a, ha⟩ : ∃ a, a = at_ l (k : Int) := ⟨_, rfl⟩
          obtain ⟨q, hq⟩ : ∃ q, q = at_ l ((k : Int) + 1) := ⟨_, rfl⟩
          obtain ⟨p, hp⟩ : ∃ p, p = at_ l (j : Int) := ⟨_, rfl⟩
          obtain ⟨r, hr⟩ : ∃ r, r = at_ l ((j : Int) + 1) := ⟨_, rfl⟩
          have HS : Hid (∀ W, Below w.heap.size w W → W.cell? ⟨b, off + k * 2, none⟩ = some (.int .i64 a.1) ∧ W.cell? ⟨b, off + k * 2 + 1, none⟩ = some (.int .i64 a.2) ∧ W.cell? ⟨b, off + j * 2, none⟩ = some (.int .i64 p.1) ∧ W.cell? ⟨b, off + j * 2 + 1, none⟩ = some (.int .i64 p.2) ∧ w.heap.size ≤ W.heap.size ∧ Below w.heap.size w W) := Lib.hid fun W h => by
            rw [ha, at_nat hkl, hp, at_nat hjl]
            exact ⟨(h.cell (p := ⟨b, off + k * 2, none⟩) hb).trans (HC.out k hkl).1, (h.cell (p := ⟨b, off + k * 2 + 1, none⟩) hb).trans (HC.out k hkl).2, (h.cell (p := ⟨b, off + j * 2, none⟩) hb).trans (HC.out j hjl).1, (h.cell (p := ⟨b, off + j * 2 + 1, none⟩) hb).trans (HC.out j hjl).2, h.size, h⟩
          have m1 : mayB a.1 a.2 = true := by rw [ha]; exact M.out _
          have m2 : mayB q.1 q.2 = true := by rw [hq]; exact M.out _
          have m3 : mayB p.1 p.2 = true := by rw [hp]; exact M.out _
          have m4 : mayB r.1 r.2 = true := by rw [hr]; exact M.out _
          have D1 := Lib.hid (fun W h => C.out ((k : Int) + 1) W h (by omega))
          have D2 := Lib.hid (fun W h => C.out ((j : Int) + 1) W h (by omega))
          rw [← hq] at D1
          rw [← hr] at D2
          have F := Lib.hid (fun W => F0.out k j W (by omega))
          have R := Lib.hid (show crossE l k j = crossB a.1 a.2 q.1 q.2 p.1 p.2 r.1 r.2 by unfold crossE crossP; rw [ha, hq, hp, hr])
          clear ha hq hp hr C F0
          have hj0 : (0 : Int) ≤ (j : Int) := by omega
          have hj1 : (j : Int) < (n : Int) := by omega
          have x1 := IntWalk.i64_in ((k : Int) + 1) (by omega)
          have x2 := IntWalk.i64_in ((j : Int) + 1) (by omega)
          have x3 := IntWalk.i64_in ((k : Int) + 2) (by omega)
          cases hf : decide (k = (j + 1) % n)
          · have G := Lib.hid (show meetF l k j = crossB a.1 a.2 q.1 q.2 p.1 p.2 r.1 r.2 by unfold meetF; rw [← E.out, hf, decide_eq_true hkj, R.out]; rfl)
            rw [hf] at F
            clear hf
            go_wp2_with fail
            refine wp_region_held_drew (S := (fun W => W.cell? ⟨b, off + k * 2, none⟩ = some (.int .i64 a.1) ∧ W.cell? ⟨b, off + k * 2 + 1, none⟩ = some (.int .i64 a.2) ∧ W.cell? ⟨b, off + j * 2, none⟩ = some (.int .i64 p.1) ∧ W.cell? ⟨b, off + j * 2 + 1, none⟩ = some (.int .i64 p.2) ∧ w.heap.size ≤ W.heap.size ∧ Below w.heap.size w W)) (by kernel_rfl) (HS.out _ hB.drew) (fun hHeld => ?_)
            refine wpAnyH_take (i := 0) (v := ?vN0) rfl (by kernel_rfl) (by kernel_rfl) (by kernel_rfl) (fun _ _ _ h => h) (Or.inl ⟨by rfl, ?yN0⟩) hHeld ?rN0
            case yN0 => (intro W hSw; simp only [List.getElem_toArray, List.getElem_cons_zero]; go_simp; try (with_reducible rfl))
            simp only [List.getElem_toArray, List.getElem_cons_zero, Act.put, List.setIfInBounds_toArray, List.set_cons_zero, List.set_cons_succ]
            refine wpAnyH_take (i := 1) (v := ?vN1) rfl (by kernel_rfl) (by kernel_rfl) (by kernel_rfl) (fun _ _ _ h => h) (Or.inl ⟨by rfl, ?yN1⟩) hHeld ?rN1
            case yN1 => (intro W hSw; simp only [List.getElem_toArray, List.getElem_cons_succ, List.getElem_cons_zero]; go_simp; try (with_reducible rfl))
            simp only [List.getElem_toArray, List.getElem_cons_succ, List.getElem_cons_zero, Act.put, List.setIfInBounds_toArray, List.set_cons_zero, List.set_cons_succ]
            refine wpAnyH_take (i := 2) (v := ?vN2) rfl (by kernel_rfl) (by kernel_rfl) (by kernel_rfl) (fun _ _ _ h => h) (Or.inl ⟨by rfl, ?yN2⟩) hHeld ?rN2
            case yN2 => (intro W hSw; simp only [List.getElem_toArray, List.getElem_cons_succ, List.getElem_cons_zero]; go_simp; try (with_reducible rfl))
            simp only [List.getElem_toArray, List.getElem_cons_succ, List.getElem_cons_zero, Act.put, List.setIfInBounds_toArray, List.set_cons_zero, List.set_cons_succ]
            refine wpAnyH_ready (rs := [3]) (by kernel_rfl) (by simp) (AllReadyH.cons rfl (fun K hK => ?_) AllReadyH.nil)
            simp only [List.getElem_toArray, List.getElem_cons_succ, List.getElem_cons_zero]
            go_simp
            (go_at_call 69; refine (F.out _).mono ?_; rintro e w1 ⟨rfl, hb1⟩)
            try go_wp2_with fail
            refine hK.out _ _ (HS.out _ (hHeld.2.2.2.2.2.trans (hb1.mono hHeld.2.2.2.2.1))) (fun hHeld1 => ?_)
            clear hK K hHeld
            have hHeld := hHeld1; clear hHeld1
            try simp only [List.getElem_toArray, List.getElem_cons_succ, List.getElem_cons_zero, Act.put, List.setIfInBounds_toArray, List.set_cons_zero, List.set_cons_succ]
            refine wpAnyH_take (i := 4) (v := ?vN4) rfl (by kernel_rfl) (by kernel_rfl) (by kernel_rfl) (fun _ _ _ h => h) (Or.inl ⟨by rfl, ?yN4⟩) hHeld ?rN4
            case yN4 => (intro W hSw; simp only [List.getElem_toArray, List.getElem_cons_succ, List.getElem_cons_zero]; go_simp; try (with_reducible rfl))
            simp only [List.getElem_toArray, List.getElem_cons_succ, List.getElem_cons_zero, Act.put, List.setIfInBounds_toArray, List.set_cons_zero, List.set_cons_succ]
            refine wpAnyH_take (i := 5) (v := ?vN5) rfl (by kernel_rfl) (by kernel_rfl) (by kernel_rfl) (fun _ _ _ h => h) (Or.inl ⟨by rfl, ?yN5⟩) hHeld ?rN5
            case yN5 => (intro W hSw; simp only [List.getElem_toArray, List.getElem_cons_succ, List.getElem_cons_zero]; go_simp; try (with_reducible rfl))
            simp only [List.getElem_toArray, List.getElem_cons_succ, List.getElem_cons_zero, Act.put, List.setIfInBounds_toArray, List.set_cons_zero, List.set_cons_succ]
            refine wpAnyH_take (i := 6) (v := ?vN6) rfl (by kernel_rfl) (by kernel_rfl) (by kernel_rfl) (fun _ _ _ h => h) (Or.inl ⟨by rfl, ?yN6⟩) hHeld ?rN6
            case yN6 => (intro W hSw; simp only [List.getElem_toArray, List.getElem_cons_succ, List.getElem_cons_zero]; go_simp; try (with_reducible rfl))
            simp only [List.getElem_toArray, List.getElem_cons_succ, List.getElem_cons_zero, Act.put, List.setIfInBounds_toArray, List.set_cons_zero, List.set_cons_succ]
            refine wpAnyH_take (i := 7) (v := ?vN7) rfl (by kernel_rfl) (by kernel_rfl) (by kernel_rfl) (fun _ _ _ h => h) (Or.inl ⟨by rfl, ?yN7⟩) hHeld ?rN7
            case yN7 => (intro W hSw; simp only [List.getElem_toArray, List.getElem_cons_succ, List.getElem_cons_zero]; go_simp; try (with_reducible rfl))
            simp only [List.getElem_toArray, List.getElem_cons_succ, List.getElem_cons_zero, Act.put, List.setIfInBounds_toArray, List.set_cons_zero, List.set_cons_succ]
            refine wpAnyH_take (i := 8) (v := ?vN8) rfl (by kernel_rfl) (by kernel_rfl) (by kernel_rfl) (fun _ _ _ h => h) (Or.inl ⟨by rfl, ?yN8⟩) hHeld ?rN8
            case yN8 => (intro W hSw; simp only [List.getElem_toArray, List.getElem_cons_succ, List.getElem_cons_zero]; go_simp; try (with_reducible rfl))
            simp only [List.getElem_toArray, List.getElem_cons_succ, List.getElem_cons_zero, Act.put, List.setIfInBounds_toArray, List.set_cons_zero, List.set_cons_succ]
            refine wpAnyH_take (i := 9) (v := ?vN9) rfl (by kernel_rfl) (by kernel_rfl) (by kernel_rfl) (fun _ _ _ h => h) (Or.inl ⟨by rfl, ?yN9⟩) hHeld ?rN9
            case yN9 => (intro W hSw; simp only [List.getElem_toArray, List.getElem_cons_succ, List.getElem_cons_zero]; go_simp; try (with_reducible rfl))
            simp only [List.getElem_toArray, List.getElem_cons_succ, List.getElem_cons_zero, Act.put, List.setIfInBounds_toArray, List.set_cons_zero, List.set_cons_succ]
            refine wpAnyH_take (i := 10) (v := ?vN10) rfl (by kernel_rfl) (by kernel_rfl) (by kernel_rfl) (fun _ _ _ h => h) (Or.inl ⟨by rfl, ?yN10⟩) hHeld ?rN10
            case yN10 => (intro W hSw; simp only [List.getElem_toArray, List.getElem_cons_succ, List.getElem_cons_zero]; go_simp; try (with_reducible rfl))
            simp only [List.getElem_toArray, List.getElem_cons_succ, List.getElem_cons_zero, Act.put, List.setIfInBounds_toArray, List.set_cons_zero, List.set_cons_succ]
            refine wpAnyH_take (i := 11) (v := ?vN11) rfl (by kernel_rfl) (by kernel_rfl) (by kernel_rfl) (fun _ _ _ h => h) (Or.inl ⟨by rfl, ?yN11⟩) hHeld ?rN11
            case yN11 => (intro W hSw; simp only [List.getElem_toArray, List.getElem_cons_succ, List.getElem_cons_zero]; go_simp; try (with_reducible rfl))
            simp only [List.getElem_toArray, List.getElem_cons_succ, List.getElem_cons_zero, Act.put, List.setIfInBounds_toArray, List.set_cons_zero, List.set_cons_succ]
            refine wpAnyH_take (i := 12) (v := ?vN12) rfl (by kernel_rfl) (by kernel_rfl) (by kernel_rfl) (fun _ _ _ h => h) (Or.inl ⟨by rfl, ?yN12⟩) hHeld ?rN12
            case yN12 => (intro W hSw; simp only [List.getElem_toArray, List.getElem_cons_succ, List.getElem_cons_zero]; go_simp; try (with_reducible rfl))
            simp only [List.getElem_toArray, List.getElem_cons_succ, List.getElem_cons_zero, Act.put, List.setIfInBounds_toArray, List.set_cons_zero, List.set_cons_succ]
            refine wpAnyH_take (i := 14) (v := ?vN14) rfl (by kernel_rfl) (by kernel_rfl) (by kernel_rfl) (fun _ _ _ h => h) (Or.inl ⟨by rfl, ?yN14⟩) hHeld ?rN14
            case yN14 => (intro W hSw; simp only [List.getElem_toArray, List.getElem_cons_succ, List.getElem_cons_zero]; go_simp; try (with_reducible rfl))
            simp only [List.getElem_toArray, List.getElem_cons_succ, List.getElem_cons_zero, Act.put, List.setIfInBounds_toArray, List.set_cons_zero, List.set_cons_succ]
            refine wpAnyH_take (i := 15) (v := ?vN15) rfl (by kernel_rfl) (by kernel_rfl) (by kernel_rfl) (fun _ _ _ h => h) (Or.inl ⟨by rfl, ?yN15⟩) hHeld ?rN15
            case yN15 => (intro W hSw; simp only [List.getElem_toArray, List.getElem_cons_succ, List.getElem_cons_zero]; go_simp; try (with_reducible rfl))
            simp only [List.getElem_toArray, List.getElem_cons_succ, List.getElem_cons_zero, Act.put, List.setIfInBounds_toArray, List.set_cons_zero, List.set_cons_succ]
            refine wpAnyH_take (i := 16) (v := ?vN16) rfl (by kernel_rfl) (by kernel_rfl) (by kernel_rfl) (fun _ _ _ h => h) (Or.inl ⟨by rfl, ?yN16⟩) hHeld ?rN16
            case yN16 => (intro W hSw; simp only [List.getElem_toArray, List.getElem_cons_succ, List.getElem_cons_zero]; go_simp; try (with_reducible rfl))
            simp only [List.getElem_toArray, List.getElem_cons_succ, List.getElem_cons_zero, Act.put, List.setIfInBounds_toArray, List.set_cons_zero, List.set_cons_succ]
            refine wpAnyH_take (i := 17) (v := ?vN17) rfl (by kernel_rfl) (by kernel_rfl) (by kernel_rfl) (fun _ _ _ h => h) (Or.inl ⟨by rfl, ?yN17⟩) hHeld ?rN17
            case yN17 => (intro W hSw; simp only [List.getElem_toArray, List.getElem_cons_succ, List.getElem_cons_zero]; go_simp; try (with_reducible rfl))
            simp only [List.getElem_toArray, List.getElem_cons_succ, List.getElem_cons_zero, Act.put, List.setIfInBounds_toArray, List.set_cons_zero, List.set_cons_succ]
            refine wpAnyH_take (i := 18) (v := ?vN18) rfl (by kernel_rfl) (by kernel_rfl) (by kernel_rfl) (fun _ _ _ h => h) (Or.inl ⟨by rfl, ?yN18⟩) hHeld ?rN18
            case yN18 => (intro W hSw; simp only [List.getElem_toArray, List.getElem_cons_succ, List.getElem_cons_zero]; go_simp; try (with_reducible rfl))
            simp only [List.getElem_toArray, List.getElem_cons_succ, List.getElem_cons_zero, Act.put, List.setIfInBounds_toArray, List.set_cons_zero, List.set_cons_succ]
            refine wpAnyH_take (i := 19) (v := ?vN19) rfl (by kernel_rfl) (by kernel_rfl) (by kernel_rfl) (fun _ _ _ h => h) (Or.inl ⟨by rfl, ?yN19⟩) hHeld ?rN19
            case yN19 => (intro W hSw; simp only [List.getElem_toArray, List.getElem_cons_succ, List.getElem_cons_zero]; go_simp; try (with_reducible rfl))
            simp only [List.getElem_toArray, List.getElem_cons_succ, List.getElem_cons_zero, Act.put, List.setIfInBounds_toArray, List.set_cons_zero, List.set_cons_succ]
            refine wpAnyH_take (i := 20) (v := ?vN20) rfl (by kernel_rfl) (by kernel_rfl) (by kernel_rfl) (fun _ _ _ h => h) (Or.inl ⟨by rfl, ?yN20⟩) hHeld ?rN20
            case yN20 => (intro W hSw; simp only [List.getElem_toArray, List.getElem_cons_succ, List.getElem_cons_zero]; go_simp; try (with_reducible rfl))
            simp only [List.getElem_toArray, List.getElem_cons_succ, List.getElem_cons_zero, Act.put, List.setIfInBounds_toArray, List.set_cons_zero, List.set_cons_succ]
            refine wpAnyH_ready (rs := [13]) (by kernel_rfl) (by simp) (AllReadyH.cons rfl (fun K hK => ?_) AllReadyH.nil)
            simp only [List.getElem_toArray, List.getElem_cons_succ, List.getElem_cons_zero]
            go_simp
            (go_at_call 67; refine (D1.out _ hHeld.2.2.2.2.2).mono ?_; rintro e w1 ⟨rfl, hb1⟩)
            try go_wp2_with fail
            refine hK.out _ _ (HS.out _ (hHeld.2.2.2.2.2.trans (hb1.mono hHeld.2.2.2.2.1))) (fun hHeld1 => ?_)
            clear hK K hHeld
            have hHeld := hHeld1; clear hHeld1
            try simp only [List.getElem_toArray, List.getElem_cons_succ, List.getElem_cons_zero, Act.put, List.setIfInBounds_toArray, List.set_cons_zero, List.set_cons_succ]
            refine wpAnyH_ready (rs := [21]) (by kernel_rfl) (by simp) (AllReadyH.cons rfl (fun K hK => ?_) AllReadyH.nil)
            simp only [List.getElem_toArray, List.getElem_cons_succ, List.getElem_cons_zero]
            go_simp
            (go_at_call 67; refine (D2.out _ hHeld.2.2.2.2.2).mono ?_; rintro e w1 ⟨rfl, hb1⟩)
            try go_wp2_with fail
            refine hK.out _ _ (HS.out _ (hHeld.2.2.2.2.2.trans (hb1.mono hHeld.2.2.2.2.1))) (fun hHeld1 => ?_)
            clear hK K hHeld
            have hHeld := hHeld1; clear hHeld1
            try simp only [List.getElem_toArray, List.getElem_cons_succ, List.getElem_cons_zero, Act.put, List.setIfInBounds_toArray, List.set_cons_zero, List.set_cons_succ]
            refine wpAnyH_ready (rs := [22]) (by kernel_rfl) (by simp) (AllReadyH.cons rfl (fun K hK => ?_) AllReadyH.nil)
            simp only [List.getElem_toArray, List.getElem_cons_succ, List.getElem_cons_zero]
            go_simp
            (go_at_call 70; refine (cross_any _ _ _ _ _ _ _ _ _ m1 m2 m3 m4).mono ?_; rintro e w1 ⟨rfl, hb1⟩)
            try go_wp2_with fail
            refine hK.out _ _ (HS.out _ (hHeld.2.2.2.2.2.trans (hb1.mono hHeld.2.2.2.2.1))) (fun hHeld1 => ?_)
            clear hK K hHeld
            have hHeld := hHeld1; clear hHeld1
            try simp only [List.getElem_toArray, List.getElem_cons_succ, List.getElem_cons_zero, Act.put, List.setIfInBounds_toArray, List.set_cons_zero, List.set_cons_succ]
            refine wpAnyH_take (i := 23) (v := ?vN23) rfl (by kernel_rfl) (by kernel_rfl) (by kernel_rfl) (fun _ _ _ h => h) (Or.inl ⟨by rfl, ?yN23⟩) hHeld ?rN23
            case yN23 => (intro W hSw; simp only [List.getElem_toArray, List.getElem_cons_succ, List.getElem_cons_zero]; go_simp; try (with_reducible rfl))
            simp only [List.getElem_toArray, List.getElem_cons_succ, List.getElem_cons_zero, Act.put, List.setIfInBounds_toArray, List.set_cons_zero, List.set_cons_succ]
            refine wpAnyH_done (by kernel_rfl) ?_ _
            have B1 := hHeld.2.2.2.2.2
            clear hHeld HS D1 D2
            cases hh : crossB a.1 a.2 q.1 q.2 p.1 p.2 r.1 r.2
            · go_wp2_with fail
              go_roundw
              case rel => exact ⟨j + 1, by omega, by omega, by go_num, anyTo_next HM.out (by rw [G.out, hh]), B1⟩
              case measure => simp [intOf]; omega
            · go_wp2_with fail
              rw [show meetsB l = true from anyTo_yes hkl (anyTo_yes hjl (by rw [G.out, hh]))]
              go_ret
              exact ⟨rfl, B1⟩
          · have G := Lib.hid (show meetF l k j = false by unfold meetF; rw [← E.out, hf]; simp)
            rw [hf] at F
            clear hf
            go_wp2_with fail
            refine wp_region_held_drew (S := (fun W => W.cell? ⟨b, off + k * 2, none⟩ = some (.int .i64 a.1) ∧ W.cell? ⟨b, off + k * 2 + 1, none⟩ = some (.int .i64 a.2) ∧ W.cell? ⟨b, off + j * 2, none⟩ = some (.int .i64 p.1) ∧ W.cell? ⟨b, off + j * 2 + 1, none⟩ = some (.int .i64 p.2) ∧ w.heap.size ≤ W.heap.size ∧ Below w.heap.size w W)) (by kernel_rfl) (HS.out _ hB.drew) (fun hHeld => ?_)
            refine wpAnyH_take (i := 0) (v := ?vY0) rfl (by kernel_rfl) (by kernel_rfl) (by kernel_rfl) (fun _ _ _ h => h) (Or.inl ⟨by rfl, ?yY0⟩) hHeld ?rY0
            case yY0 => (intro W hSw; simp only [List.getElem_toArray, List.getElem_cons_zero]; go_simp; try (with_reducible rfl))
            simp only [List.getElem_toArray, List.getElem_cons_zero, Act.put, List.setIfInBounds_toArray, List.set_cons_zero, List.set_cons_succ]
            refine wpAnyH_take (i := 1) (v := ?vY1) rfl (by kernel_rfl) (by kernel_rfl) (by kernel_rfl) (fun _ _ _ h => h) (Or.inl ⟨by rfl, ?yY1⟩) hHeld ?rY1
            case yY1 => (intro W hSw; simp only [List.getElem_toArray, List.getElem_cons_succ, List.getElem_cons_zero]; go_simp; try (with_reducible rfl))
            simp only [List.getElem_toArray, List.getElem_cons_succ, List.getElem_cons_zero, Act.put, List.setIfInBounds_toArray, List.set_cons_zero, List.set_cons_succ]
            refine wpAnyH_take (i := 2) (v := ?vY2) rfl (by kernel_rfl) (by kernel_rfl) (by kernel_rfl) (fun _ _ _ h => h) (Or.inl ⟨by rfl, ?yY2⟩) hHeld ?rY2
            case yY2 => (intro W hSw; simp only [List.getElem_toArray, List.getElem_cons_succ, List.getElem_cons_zero]; go_simp; try (with_reducible rfl))
            simp only [List.getElem_toArray, List.getElem_cons_succ, List.getElem_cons_zero, Act.put, List.setIfInBounds_toArray, List.set_cons_zero, List.set_cons_succ]
            refine wpAnyH_ready (rs := [3]) (by kernel_rfl) (by simp) (AllReadyH.cons rfl (fun K hK => ?_) AllReadyH.nil)
            simp only [List.getElem_toArray, List.getElem_cons_succ, List.getElem_cons_zero]
            go_simp
            (go_at_call 69; refine (F.out _).mono ?_; rintro e w1 ⟨rfl, hb1⟩)
            try go_wp2_with fail
            refine hK.out _ _ (HS.out _ (hHeld.2.2.2.2.2.trans (hb1.mono hHeld.2.2.2.2.1))) (fun hHeld1 => ?_)
            clear hK K hHeld
            have hHeld := hHeld1; clear hHeld1
            try simp only [List.getElem_toArray, List.getElem_cons_succ, List.getElem_cons_zero, Act.put, List.setIfInBounds_toArray, List.set_cons_zero, List.set_cons_succ]
            refine wpAnyH_take (i := 4) (v := ?vY4) rfl (by kernel_rfl) (by kernel_rfl) (by kernel_rfl) (fun _ _ _ h => h) (Or.inl ⟨by rfl, ?yY4⟩) hHeld ?rY4
            case yY4 => (intro W hSw; simp only [List.getElem_toArray, List.getElem_cons_succ, List.getElem_cons_zero]; go_simp; try (with_reducible rfl))
            simp only [List.getElem_toArray, List.getElem_cons_succ, List.getElem_cons_zero, Act.put, List.setIfInBounds_toArray, List.set_cons_zero, List.set_cons_succ]
            refine wpAnyH_take (i := 5) (v := ?vY5) rfl (by kernel_rfl) (by kernel_rfl) (by kernel_rfl) (fun _ _ _ h => h) (Or.inl ⟨by rfl, ?yY5⟩) hHeld ?rY5
            case yY5 => (intro W hSw; simp only [List.getElem_toArray, List.getElem_cons_succ, List.getElem_cons_zero]; go_simp; try (with_reducible rfl))
            simp only [List.getElem_toArray, List.getElem_cons_succ, List.getElem_cons_zero, Act.put, List.setIfInBounds_toArray, List.set_cons_zero, List.set_cons_succ]
            refine wpAnyH_take (i := 6) (v := undef) rfl (by kernel_rfl) (by kernel_rfl) (by kernel_rfl) (fun _ _ _ h => h) (Or.inr ⟨by rfl, rfl⟩) hHeld ?_
            simp only [List.getElem_toArray, List.getElem_cons_succ, List.getElem_cons_zero, Act.put, List.setIfInBounds_toArray, List.set_cons_zero, List.set_cons_succ]
            refine wpAnyH_take (i := 7) (v := undef) rfl (by kernel_rfl) (by kernel_rfl) (by kernel_rfl) (fun _ _ _ h => h) (Or.inr ⟨by rfl, rfl⟩) hHeld ?_
            simp only [List.getElem_toArray, List.getElem_cons_succ, List.getElem_cons_zero, Act.put, List.setIfInBounds_toArray, List.set_cons_zero, List.set_cons_succ]
            refine wpAnyH_take (i := 8) (v := undef) rfl (by kernel_rfl) (by kernel_rfl) (by kernel_rfl) (fun _ _ _ h => h) (Or.inr ⟨by rfl, rfl⟩) hHeld ?_
            simp only [List.getElem_toArray, List.getElem_cons_succ, List.getElem_cons_zero, Act.put, List.setIfInBounds_toArray, List.set_cons_zero, List.set_cons_succ]
            refine wpAnyH_take (i := 9) (v := undef) rfl (by kernel_rfl) (by kernel_rfl) (by kernel_rfl) (fun _ _ _ h => h) (Or.inr ⟨by rfl, rfl⟩) hHeld ?_
            simp only [List.getElem_toArray, List.getElem_cons_succ, List.getElem_cons_zero, Act.put, List.setIfInBounds_toArray, List.set_cons_zero, List.set_cons_succ]
            refine wpAnyH_take (i := 10) (v := undef) rfl (by kernel_rfl) (by kernel_rfl) (by kernel_rfl) (fun _ _ _ h => h) (Or.inr ⟨by rfl, rfl⟩) hHeld ?_
            simp only [List.getElem_toArray, List.getElem_cons_succ, List.getElem_cons_zero, Act.put, List.setIfInBounds_toArray, List.set_cons_zero, List.set_cons_succ]
            refine wpAnyH_take (i := 11) (v := undef) rfl (by kernel_rfl) (by kernel_rfl) (by kernel_rfl) (fun _ _ _ h => h) (Or.inr ⟨by rfl, rfl⟩) hHeld ?_
            simp only [List.getElem_toArray, List.getElem_cons_succ, List.getElem_cons_zero, Act.put, List.setIfInBounds_toArray, List.set_cons_zero, List.set_cons_succ]
            refine wpAnyH_take (i := 12) (v := undef) rfl (by kernel_rfl) (by kernel_rfl) (by kernel_rfl) (fun _ _ _ h => h) (Or.inr ⟨by rfl, rfl⟩) hHeld ?_
            simp only [List.getElem_toArray, List.getElem_cons_succ, List.getElem_cons_zero, Act.put, List.setIfInBounds_toArray, List.set_cons_zero, List.set_cons_succ]
            refine wpAnyH_take (i := 13) (v := undef) rfl (by kernel_rfl) (by kernel_rfl) (by kernel_rfl) (fun _ _ _ h => h) (Or.inr ⟨by rfl, rfl⟩) hHeld ?_
            simp only [List.getElem_toArray, List.getElem_cons_succ, List.getElem_cons_zero, Act.put, List.setIfInBounds_toArray, List.set_cons_zero, List.set_cons_succ]
            refine wpAnyH_take (i := 14) (v := undef) rfl (by kernel_rfl) (by kernel_rfl) (by kernel_rfl) (fun _ _ _ h => h) (Or.inr ⟨by rfl, rfl⟩) hHeld ?_
            simp only [List.getElem_toArray, List.getElem_cons_succ, List.getElem_cons_zero, Act.put, List.setIfInBounds_toArray, List.set_cons_zero, List.set_cons_succ]
            refine wpAnyH_take (i := 15) (v := undef) rfl (by kernel_rfl) (by kernel_rfl) (by kernel_rfl) (fun _ _ _ h => h) (Or.inr ⟨by rfl, rfl⟩) hHeld ?_
            simp only [List.getElem_toArray, List.getElem_cons_succ, List.getElem_cons_zero, Act.put, List.setIfInBounds_toArray, List.set_cons_zero, List.set_cons_succ]
            refine wpAnyH_take (i := 16) (v := undef) rfl (by kernel_rfl) (by kernel_rfl) (by kernel_rfl) (fun _ _ _ h => h) (Or.inr ⟨by rfl, rfl⟩) hHeld ?_
            simp only [List.getElem_toArray, List.getElem_cons_succ, List.getElem_cons_zero, Act.put, List.setIfInBounds_toArray, List.set_cons_zero, List.set_cons_succ]
            refine wpAnyH_take (i := 17) (v := undef) rfl (by kernel_rfl) (by kernel_rfl) (by kernel_rfl) (fun _ _ _ h => h) (Or.inr ⟨by rfl, rfl⟩) hHeld ?_
            simp only [List.getElem_toArray, List.getElem_cons_succ, List.getElem_cons_zero, Act.put, List.setIfInBounds_toArray, List.set_cons_zero, List.set_cons_succ]
            refine wpAnyH_take (i := 18) (v := undef) rfl (by kernel_rfl) (by kernel_rfl) (by kernel_rfl) (fun _ _ _ h => h) (Or.inr ⟨by rfl, rfl⟩) hHeld ?_
            simp only [List.getElem_toArray, List.getElem_cons_succ, List.getElem_cons_zero, Act.put, List.setIfInBounds_toArray, List.set_cons_zero, List.set_cons_succ]
            refine wpAnyH_take (i := 19) (v := undef) rfl (by kernel_rfl) (by kernel_rfl) (by kernel_rfl) (fun _ _ _ h => h) (Or.inr ⟨by rfl, rfl⟩) hHeld ?_
            simp only [List.getElem_toArray, List.getElem_cons_succ, List.getElem_cons_zero, Act.put, List.setIfInBounds_toArray, List.set_cons_zero, List.set_cons_succ]
            refine wpAnyH_take (i := 20) (v := undef) rfl (by kernel_rfl) (by kernel_rfl) (by kernel_rfl) (fun _ _ _ h => h) (Or.inr ⟨by rfl, rfl⟩) hHeld ?_
            simp only [List.getElem_toArray, List.getElem_cons_succ, List.getElem_cons_zero, Act.put, List.setIfInBounds_toArray, List.set_cons_zero, List.set_cons_succ]
            refine wpAnyH_take (i := 21) (v := undef) rfl (by kernel_rfl) (by kernel_rfl) (by kernel_rfl) (fun _ _ _ h => h) (Or.inr ⟨by rfl, rfl⟩) hHeld ?_
            simp only [List.getElem_toArray, List.getElem_cons_succ, List.getElem_cons_zero, Act.put, List.setIfInBounds_toArray, List.set_cons_zero, List.set_cons_succ]
            refine wpAnyH_take (i := 22) (v := undef) rfl (by kernel_rfl) (by kernel_rfl) (by kernel_rfl) (fun _ _ _ h => h) (Or.inr ⟨by rfl, rfl⟩) hHeld ?_
            simp only [List.getElem_toArray, List.getElem_cons_succ, List.getElem_cons_zero, Act.put, List.setIfInBounds_toArray, List.set_cons_zero, List.set_cons_succ]
            refine wpAnyH_take (i := 23) (v := ?vY23) rfl (by kernel_rfl) (by kernel_rfl) (by kernel_rfl) (fun _ _ _ h => h) (Or.inl ⟨by rfl, ?yY23⟩) hHeld ?rY23
            case yY23 => (intro W hSw; simp only [List.getElem_toArray, List.getElem_cons_succ, List.getElem_cons_zero]; go_simp; try (with_reducible rfl))
            simp only [List.getElem_toArray, List.getElem_cons_succ, List.getElem_cons_zero, Act.put, List.setIfInBounds_toArray, List.set_cons_zero, List.set_cons_succ]
            refine wpAnyH_done (by kernel_rfl) ?_ _
            have B1 := hHeld.2.2.2.2.2
            clear hHeld HS D1 D2
            go_wp2_with fail
            go_roundw
            case rel => exact ⟨j + 1, by omega, by omega, by go_num, anyTo_next HM.out G.out, B1⟩
            case measure => simp [intOf]; omega
        · have HT : Hid (anyTo (meetF l k) l.length = false) := Lib.hid (anyTo_le HM.out (by have := E.out; omega))
          go_wp2_with fail
          go_roundw
          case rel => exact ⟨k + 1, by omega, by go_num, anyTo_next HN.out HT.out, hB⟩
          case measure => simp [intOf]; omega
    · have hkn : k = n := by have := E.out; omega
      have HT : Hid (meetsB l = false) := Lib.hid (anyTo_le HN.out (by have := E.out; omega))
      clear hkn
      go_wp2_with fail
      rw [HT.out]
      go_ret
      exact ⟨rfl, hB⟩
end Go.Proofs.Ythakngphffoooaa.Pl
/-
  The contract of crossesRay of layer 3 (poly), for points that may be. Memory that was there is left as it was.
-/
namespace Go.Proofs.Ythakngphffoooaa.Pl
open Go.RowKit Go.Proofs.Ythakngphffoooaa.Pt Go.Proofs.Ythakngphffoooaa.Rc Go.Proofs.Ythakngphffoooaa.Pts
set_option linter.unusedVariables false

end Go.Proofs.Ythakngphffoooaa.Pl
/-
  Contracts of onEdge and within of layer 3 (poly), for a list of 1 to 70 points that may be, and a point that may be. Memory that was there is left as it was.
-/
namespace Go.Proofs.Ythakngphffoooaa.Pl
open Go.RowKit Go.Proofs.Ythakngphffoooaa.Pt Go.Proofs.Ythakngphffoooaa.Rc Go.Proofs.Ythakngphffoooaa.Pts
set_option linter.unusedVariables false

def EdgeRel (v : World) (l : List Pnt) (p : Pnt) (i : Value) (wr : World) : Prop := ∃ k : Nat, k ≤ l.length ∧ i = .int .i64 k ∧ anyTo (onF l p) k = false ∧ Below v.heap.size v wr
def OddRel (v : World) (l : List Pnt) (p : Pnt) (o i : Value) (wr : World) : Prop := ∃ k : Nat, k ≤ l.length ∧ o = .bool (oddB l p k) ∧ i = .int .i64 k ∧ Below v.heap.size v wr

end Go.Proofs.Ythakngphffoooaa.Pl
/-
  Contracts of Join of layer 2 (rect), and of the document's answers In, less and more. Memory that was there is left as it was.
-/
namespace Go.Proofs.Ythakngphffoooaa.Rc
open Go.RowKit Go.Proofs.Ythakngphffoooaa.Pt

theorem refIn_any (x1 y1 x2 y2 px py : Int) (w : World) : Calls Try.prog 23 #[.agg #[.int .i64 x1, .int .i64 y1, .int .i64 x2, .int .i64 y2], .agg #[.int .i64 px, .int .i64 py]] w fun e w' => e = .returned (.bool (inB x1 y1 x2 y2 px py)) ∧ Below w.heap.size w w' := by
  go_enter Try.func23, Try.ntmps23
  go_wp2
  all_goals (go_ret; exact ⟨by simp [inB, *] <;> omega, ((Below.refl _ _).alloc (Nat.le_refl _) _).alloc (by simp) _⟩)

theorem less_any (a b : Int) (w : World) : Calls Try.prog 59 #[.int .i64 a, .int .i64 b] w fun e w' => e = .returned (.int .i64 (mn a b)) ∧ w = w' := by
  go_enter Try.func59, Try.ntmps59
  go_wp2
  all_goals (go_ret; exact ⟨by simp [mn, *] <;> omega, rfl⟩)

theorem more_any (a b : Int) (w : World) (ha : inR a = true) (hb : inR b = true) : Calls Try.prog 60 #[.int .i64 a, .int .i64 b] w fun e w' => e = .returned (.int .i64 (mx a b)) ∧ w = w' := by
  have h1 := inR_iff.1 ha; have h2 := inR_iff.1 hb
  have h3 := mn_cases (-a) (-b)
  have h4 : -9223372036854775808 < mn (-a) (-b) ∧ mn (-a) (-b) < 9223372036854775808 := by omega
  rw [← mx_neg a b]
  obtain ⟨_, _⟩ := h1; obtain ⟨_, _⟩ := h2; obtain ⟨_, _⟩ := h4
  clear h3 ha hb
  go_enter Try.func60, Try.ntmps60
  go_wp2_with (go_at_call 59; refine (less_any _ _ _).mono ?_; rintro e w' ⟨rfl, rfl⟩)
  go_ret
  exact ⟨rfl, rfl⟩

theorem run_mn (P : Program) (ts : Array TypeId) (t : TypeId) (x y : Int) (W : World) : (Builtin.min_ ts t #[.int .i64 x, .int .i64 y]).run P W = .ok (.int .i64 (mn x y)) W := run_min_int2 W ts t .i64 .i64 x y
theorem run_mx (P : Program) (ts : Array TypeId) (t : TypeId) (x y : Int) (W : World) : (Builtin.max_ ts t #[.int .i64 x, .int .i64 y]).run P W = .ok (.int .i64 (mx x y)) W := run_max_int2 W ts t .i64 .i64 x y

theorem join_any (ax1 ay1 ax2 ay2 bx1 by1 bx2 by2 : Int) (w : World) : Calls Try.prog 41 #[.agg #[.int .i64 ax1, .int .i64 ay1, .int .i64 ax2, .int .i64 ay2], .agg #[.int .i64 bx1, .int .i64 by1, .int .i64 bx2, .int .i64 by2]] w fun e w' => e = .returned (.agg #[.int .i64 (mn ax1 bx1), .int .i64 (mn ay1 by1), .int .i64 (mx ax2 bx2), .int .i64 (mx ay2 by2)]) ∧ Below w.heap.size w w' := by
  have hn := run_mn Try.prog
  have hx := run_mx Try.prog
  go_enter Try.func41, Try.ntmps41
  go_wp2
  refine bodyPost_ret (v := .agg #[.int .i64 (mn ax1 bx1), .int .i64 (mn ay1 by1), .int .i64 (mx ax2 bx2), .int .i64 (mx ay2 by2)]) (by simp [results, Try.results41, go_sem]) rfl ⟨rfl, ?_⟩
  exact (((Below.refl _ _).alloc (Nat.le_refl _) _).alloc (by simp) _).alloc (by simp; omega) _
end Go.Proofs.Ythakngphffoooaa.Rc
/-
  The contract of the document's answer Join of layer 2 (rect), for coordinates that may be. Memory that was there is left as it was.
-/
namespace Go.Proofs.Ythakngphffoooaa.Rc
open Go.RowKit Go.Proofs.Ythakngphffoooaa.Pt

set_option maxHeartbeats 1000000 in
theorem refJoin_any (ax1 ay1 ax2 ay2 bx1 by1 bx2 by2 : Int) (w : World) (h1 : inR ax2 = true) (h2 : inR ay2 = true) (h3 : inR bx2 = true) (h4 : inR by2 = true) : Calls Try.prog 44 #[.agg #[.int .i64 ax1, .int .i64 ay1, .int .i64 ax2, .int .i64 ay2], .agg #[.int .i64 bx1, .int .i64 by1, .int .i64 bx2, .int .i64 by2]] w fun e w' => e = .returned (.agg #[.int .i64 (mn ax1 bx1), .int .i64 (mn ay1 by1), .int .i64 (mx ax2 bx2), .int .i64 (mx ay2 by2)]) ∧ Below w.heap.size w w' := by
  go_enter Try.func44, Try.ntmps44
  go_wp2_with fail
  go_region_held3 (fun W => W.cell? ⟨w.heap.size, 0, none⟩ = some (.int .i64 ax1) ∧ W.cell? ⟨w.heap.size, 1, none⟩ = some (.int .i64 ay1) ∧ W.cell? ⟨w.heap.size, 2, none⟩ = some (.int .i64 ax2) ∧ W.cell? ⟨w.heap.size, 3, none⟩ = some (.int .i64 ay2) ∧ W.cell? ⟨w.heap.size + 1, 0, none⟩ = some (.int .i64 bx1) ∧ W.cell? ⟨w.heap.size + 1, 1, none⟩ = some (.int .i64 by1) ∧ W.cell? ⟨w.heap.size + 1, 2, none⟩ = some (.int .i64 bx2) ∧ W.cell? ⟨w.heap.size + 1, 3, none⟩ = some (.int .i64 by2))
    (go_keep)
    (first | (go_at_call 59; refine (less_any _ _ _).mono ?_; rintro e w1 ⟨rfl, rfl⟩) | (go_at_call 60; refine (more_any _ _ _ (by assumption) (by assumption)).mono ?_; rintro e w1 ⟨rfl, rfl⟩))
  go_wp2_with fail
  refine bodyPost_ret (v := .agg #[.int .i64 (mn ax1 bx1), .int .i64 (mn ay1 by1), .int .i64 (mx ax2 bx2), .int .i64 (mx ay2 by2)]) (by simp [results, Try.results44, go_sem]) rfl ⟨rfl, ?_⟩
  exact ((((Below.refl _ _).alloc (Nat.le_refl _) _).alloc (by simp) _).alloc (by simp; omega) _).drew

end Go.Proofs.Ythakngphffoooaa.Rc
/-
  Contracts of In and single of layer 2 (rect). Memory that was there is left as it was.
-/
namespace Go.Proofs.Ythakngphffoooaa.Rc
open Go.RowKit Go.Proofs.Ythakngphffoooaa.Pt

theorem in_any (x1 y1 x2 y2 px py : Int) (w : World) : Calls Try.prog 36 #[.agg #[.int .i64 x1, .int .i64 y1, .int .i64 x2, .int .i64 y2], .agg #[.int .i64 px, .int .i64 py]] w fun e w' => e = .returned (.bool (inB x1 y1 x2 y2 px py)) ∧ Below w.heap.size w w' := by
  go_enter Try.func36, Try.ntmps36
  go_wp2
  all_goals (go_ret; exact ⟨by simp [inB, *] <;> omega, ((Below.refl _ _).alloc (Nat.le_refl _) _).alloc (by simp) _⟩)

theorem single_any (x y : Int) (w : World) : Calls Try.prog 50 #[.agg #[.int .i64 x, .int .i64 y]] w fun e w' => e = .returned (.agg #[.int .i64 x, .int .i64 y, .int .i64 x, .int .i64 y]) ∧ Below w.heap.size w w' := by
  go_enter Try.func50, Try.ntmps50
  go_wp2
  refine bodyPost_ret (v := .agg #[.int .i64 x, .int .i64 y, .int .i64 x, .int .i64 y]) (by simp [results, Try.results50, go_sem]) rfl ⟨rfl, ?_⟩
  exact ((Below.refl _ _).alloc (Nat.le_refl _) _).alloc (by simp) _

end Go.Proofs.Ythakngphffoooaa.Rc
/-
  The contract of Of of layer 2 (rect), for any points (at most 300): the least rectangle that has them all, or a zero one. Memory that was there is left as it was.
-/
namespace Go.Proofs.Ythakngphffoooaa.Rc
open Go.RowKit Go.Proofs.Ythakngphffoooaa.Pt Go.Proofs.Ythakngphffoooaa.Pts

theorem of_nil (A : Option Addr) (c : Nat) (w : World) : Calls Try.prog 31 #[.slice A 0 c] w fun e w' => e = .returned (.tuple #[.agg #[.int .i64 0, .int .i64 0, .int .i64 0, .int .i64 0], .bool false]) ∧ Below w.heap.size w w' := by
  go_enter Try.func31, Try.ntmps31
  go_wp2
  refine bodyPost_ret (v := .tuple #[.agg #[.int .i64 0, .int .i64 0, .int .i64 0, .int .i64 0], .bool false]) (by simp [results, Try.results31, go_sem]) rfl ⟨rfl, ?_⟩
  exact (Below.refl _ _).alloc (Nat.le_refl _) _

theorem rel_step {l : List (Int × Int)} {k : Nat} {p : Int × Int} {r : R4} {X Y : Int} {W : World} {g : Nat} (hk : k < l.length) (hr : r = accR p l k) (hX : X = l[k].1) (hY : Y = l[k].2)
    (h : Rc4 W g (mn r.x1 X) (mn r.y1 Y) (mx r.x2 X) (mx r.y2 Y)) : Rc4 W g (accR p l (k + 1)).x1 (accR p l (k + 1)).y1 (accR p l (k + 1)).x2 (accR p l (k + 1)).y2 := by
  rw [accR_succ p l k hk, ← hr]; subst hX hY; exact h
theorem rel_end {k n : Nat} {p : Int × Int} {t : List (Int × Int)} (hn : n = (p :: t).length) (hk : k = n) (h : ((p :: t).take k).all pmay = true) : (p :: t).all pmay = true ∧ accR p (p :: t) k = ofR (p :: t) := by
  subst hk hn
  have h' : (p :: t).all pmay = true := by rw [List.take_of_length_le (Nat.le_refl _)] at h; exact h
  exact ⟨h', (ofR_yes h').symm⟩
/-- What holds at the head of each round of Of's loop. -/
def OfRel (w : World) (g : Nat) (p : Int × Int) (l : List (Int × Int)) (i : Value) (wr : World) : Prop :=
  ∃ k : Nat, k ≤ l.length ∧ i = .int .i64 k ∧ (l.take k).all pmay = true ∧ Rc4 wr w.heap.size 0 0 0 0 ∧ Rc4 wr g (accR p l k).x1 (accR p l k).y1 (accR p l k).x2 (accR p l k).y2 ∧ Below w.heap.size w wr

set_option maxHeartbeats 2000000 in
theorem of_some (p : Int × Int) (t : List (Int × Int)) (b off c : Nat) (w : World) (hBb : b < w.heap.size) (hn : (p :: t).length ≤ 300)
    (hc : ∀ (k : Nat) (h : k < (p :: t).length), w.cell? ⟨b, off + k * 2, none⟩ = some (.int .i64 (p :: t)[k].1) ∧ w.cell? ⟨b, off + k * 2 + 1, none⟩ = some (.int .i64 (p :: t)[k].2)) :
    Calls Try.prog 31 #[.slice (some ⟨b, off, none⟩) (p :: t).length c] w fun e w' => e = .returned (.tuple #[.agg #[.int .i64 (ofR (p :: t)).x1, .int .i64 (ofR (p :: t)).y1, .int .i64 (ofR (p :: t)).x2, .int .i64 (ofR (p :: t)).y2], .bool (ofB (p :: t))]) ∧ Below w.heap.size w w' := by
  obtain ⟨n, e⟩ : ∃ n, n = (p :: t).length := ⟨_, rfl⟩
  have h0 : 0 < n := by simp [e]
  have q1 : w.cell? ⟨b, off, none⟩ = some (.int .i64 p.1) := (hc 0 (by simp)).1
  have q2 : w.cell? ⟨b, off + 1, none⟩ = some (.int .i64 p.2) := (hc 0 (by simp)).2
  have HC := Lib.hid hc
  rw [← e] at hn ⊢
  have E := Lib.hid e
  clear e hc
  go_enter Try.func31, Try.ntmps31
  go_wp2_with fail
  refine (single_any _ _ _).mono ?_
  rintro e w1 ⟨rfl, hb1⟩
  have hz1 : w.heap.size < w1.heap.size := by have := hb1.size; simp at this; omega
  have S1 := Lib.hid (show OfRel w w1.heap.size p (p :: t) (.int .i64 0) (w1.alloc (.cells #[.int .i64 p.1, .int .i64 p.2, .int .i64 p.1, .int .i64 p.2] 23)) from
    ⟨0, Nat.zero_le _, rfl, rfl, ((Rc4.new w 0 0 0 0 23).later hb1).alloc _, Rc4.new w1 _ _ _ _ _, (((Below.refl w.heap.size w).alloc (Nat.le_refl _) _).trans (hb1.mono (by simp))).alloc (by omega) _⟩)
  clear hb1
  obtain ⟨g, hg⟩ : ∃ g, g = w1.heap.size := ⟨_, rfl⟩
  rw [← hg] at S1 hz1
  have G := Lib.hid hg
  go_wp2_with fail
  rw [← hg]
  clear hg
  go_loopw [17] (fun i wr => OfRel w g p (p :: t) i wr) (fun i _ => n - (intOf i).toNat)
  case atStart => have hg := G.out; subst hg; exact S1.out
  case round =>
    obtain ⟨k, hk, rfl, hall, hZ, hR, hB⟩ := hrel
    by_cases hlt : k < n
    · have hkl : k < (p :: t).length := by rw [← E.out]; exact hlt
      obtain ⟨X, hX⟩ : ∃ X, X = (p :: t)[k].1 := ⟨_, rfl⟩
      obtain ⟨Y, hY⟩ : ∃ Y, Y = (p :: t)[k].2 := ⟨_, rfl⟩
      have c1 : wr.cell? ⟨b, off + k * 2, none⟩ = some (.int .i64 X) := by rw [hX]; exact (hB.cell (p := ⟨b, off + k * 2, none⟩) hBb).trans (HC.out k hkl).1
      have c2 : wr.cell? ⟨b, off + k * 2 + 1, none⟩ = some (.int .i64 Y) := by rw [hY]; exact (hB.cell (p := ⟨b, off + k * 2 + 1, none⟩) hBb).trans (HC.out k hkl).2
      have HX := Lib.hid hX
      have HY := Lib.hid hY
      have HA := Lib.hid hall
      clear hX hY hall
      have hk0 : (0 : Int) ≤ (k : Int) := by omega
      have hk1 : (k : Int) < (n : Int) := by omega
      go_wp2_with fail
      refine (may_any _ _ _).mono ?_
      rintro e w2 ⟨rfl, hb2⟩
      have Z2 := (hZ.alloc _).later hb2
      have R2 := (hR.alloc _).later hb2
      have B2 : Below w.heap.size w w2 := (hB.alloc hB.size _).trans (hb2.mono (by have := hB.size; simp; omega))
      have p1 : w2.cell? ⟨wr.heap.size, 0, none⟩ = some (.int .i64 X) := by rw [hb2.cell (by simp)]; simp [go_sem]
      have p2 : w2.cell? ⟨wr.heap.size, 1, none⟩ = some (.int .i64 Y) := by rw [hb2.cell (by simp)]; simp [go_sem]
      have hz2 : wr.heap.size < w2.heap.size := by have := hb2.size; simp at this; omega
      clear hb2 hZ hR c1 c2
      cases hm : mayB X Y
      · have Z := Z2
        obtain ⟨z0, z1, z2, z3, f0, f1, f2, f3⟩ := Z
        go_wp2_with fail
        have hno : (p :: t).all pmay = false := all_no hkl (by unfold pmay; rw [← HX.out, ← HY.out]; exact hm)
        rw [ofR_no hno, ofB_no hno]
        refine bodyPost_ret (v := .tuple #[.agg #[.int .i64 0, .int .i64 0, .int .i64 0, .int .i64 0], .bool false]) ?_ rfl ⟨rfl, ?_⟩
        · simp [results, Try.results31, go_sem, *]
        · exact (((B2.setCell (by simp) _).setCell (by simp) _).setCell (by simp) _).setCell (by simp) _
      · obtain ⟨r, hr⟩ : ∃ r, r = accR p (p :: t) k := ⟨_, rfl⟩
        rw [← hr] at R2
        have HR := Lib.hid hr
        clear hr
        have R := R2
        obtain ⟨z0, z1, z2, z3, f0, f1, f2, f3⟩ := R
        go_wp2_with fail
        go_region_with (first | (go_at_call 50; refine (single_any _ _ _).mono ?_; rintro e w3 ⟨rfl, hb3⟩; have R3 := (Rc4.drew R2).later hb3; have Z3 := (Rc4.drew Z2).later hb3; have B3 := (B2.drew).trans (hb3.mono (by have := B2.size; simp; omega)); clear hb3; have R3' := R3; obtain ⟨y0, y1, y2, y3, g0, g1, g2, g3⟩ := R3') | (go_at_call 41; refine (join_any _ _ _ _ _ _ _ _ _).mono ?_; rintro e w4 ⟨rfl, hb4⟩; have R4 := R3.later hb4; have Z4 := Z3.later hb4; have B4 := B3.trans (hb4.mono B3.size); clear hb4; have R4' := R4; obtain ⟨x0, x1, x2, x3, h0, h1, h2, h3⟩ := R4'))
        all_goals go_wp2_with fail
        all_goals
          go_roundw
          case rel => exact ⟨k + 1, by omega, by go_num, all_succ hkl HA.out (by unfold pmay; rw [← HX.out, ← HY.out]; exact hm), (((Z4.far _ (by simp; omega)).far _ (by simp; omega)).far _ (by simp; omega)).far _ (by simp; omega), rel_step hkl HR.out HX.out HY.out (R4.set _ _ _ _), (((B4.setCell (by simp; omega) _).setCell (by simp; omega) _).setCell (by simp; omega) _).setCell (by simp; omega) _⟩
          case measure => simp [intOf]; omega
    · have hkn : k = n := by have := E.out; omega
      obtain ⟨hyes, hacc⟩ := rel_end E.out hkn hall
      rw [hacc] at hR
      obtain ⟨r, hr⟩ : ∃ r, r = ofR (p :: t) := ⟨_, rfl⟩
      rw [← hr] at hR
      have HR := Lib.hid hr
      have HY := Lib.hid hyes
      clear hall hkn hr hacc hyes
      have R := hR
      have Z := hZ
      obtain ⟨y0, y1, y2, y3, g0, g1, g2, g3⟩ := R
      obtain ⟨z0, z1, z2, z3, f0, f1, f2, f3⟩ := Z
      go_wp2_with fail
      rw [← HR.out, ofB_yes HY.out]
      refine bodyPost_ret (v := .tuple #[.agg #[.int .i64 r.x1, .int .i64 r.y1, .int .i64 r.x2, .int .i64 r.y2], .bool true]) ?_ rfl ⟨rfl, ?_⟩
      · simp [results, Try.results31, go_sem, *]
      · exact (((hB.setCell (by simp) _).setCell (by simp) _).setCell (by simp) _).setCell (by simp) _

theorem of_any (l : List (Int × Int)) (A : Option Addr) (c : Nat) (w : World) (hA : PtsAt w w.heap.size A l) (hn : l.length ≤ 300) :
    Calls Try.prog 31 #[.slice A l.length c] w fun e w' => e = .returned (.tuple #[.agg #[.int .i64 (ofR l).x1, .int .i64 (ofR l).y1, .int .i64 (ofR l).x2, .int .i64 (ofR l).y2], .bool (ofB l)]) ∧ Below w.heap.size w w' := by
  cases l with
  | nil => exact of_nil A c w
  | cons p t =>
    obtain ⟨b, off, rfl, hb, hc⟩ := hA (by simp)
    exact of_some p t b off c w hb hn hc
end Go.Proofs.Ythakngphffoooaa.Rc
namespace Go.Proofs.Ythakngphffoooaa.Pl
open Go.RowKit Go.Proofs.Ythakngphffoooaa.Pt Go.Proofs.Ythakngphffoooaa.Rc Go.Proofs.Ythakngphffoooaa.Pts
set_option linter.unusedVariables false

theorem simple_few (A : Option Addr) (n c : Nat) (w : World) (h : n < 3) : Calls Try.prog 47 #[.slice A n c] w fun e w' => e = .returned (.bool false) ∧ Below w.heap.size w w' := by
  have h1 := decide_eq_false (show ¬ (3 : Int) ≤ (n : Int) by omega)
  go_enter Try.func47, Try.ntmps47
  go_wp2_with fail
  go_ret
  exact ⟨rfl, Below.refl _ _⟩
theorem simple_many (A : Option Addr) (n c : Nat) (w : World) (h : 64 < n) (hn : n ≤ 70) : Calls Try.prog 47 #[.slice A n c] w fun e w' => e = .returned (.bool false) ∧ Below w.heap.size w w' := by
  have h1 : (3 : Int) ≤ (n : Int) := by omega
  have h2 : (64 : Int) < (n : Int) := by omega
  go_enter Try.func47, Try.ntmps47
  go_wp2_with fail
  go_ret
  exact ⟨rfl, Below.refl _ _⟩

set_option maxHeartbeats 1000000 in
theorem simple_mid (l : List Pnt) (A : Option Addr) (c : Nat) (w : World) (hA : PtsAt w w.heap.size A l) (h3 : 3 ≤ l.length) (hn : l.length ≤ 64) :
    Calls Try.prog 47 #[.slice A l.length c] w fun e w' => e = .returned (.bool (simpleB l)) ∧ Below w.heap.size w w' := by
  have h0 : 0 < l.length := by omega
  have C1 := Lib.hid (allMay_any l A c w hA h0 (by omega))
  have C2 := Lib.hid (fun (hm : l.all pmay = true) W (h : Below w.heap.size w W) => turnsBack_any l A c W ((hA.later h).wide h.size) h0 (by omega) hm)
  have C3 := Lib.hid (fun (hm : l.all pmay = true) W (h : Below w.heap.size w W) => meets_any l A c W ((hA.later h).wide h.size) h0 (by omega) hm)
  have R := Lib.hid (show simpleB l = (l.all pmay && (!turnsB l && !meetsB l)) by unfold simpleB; rw [decide_eq_true h3, decide_eq_true hn]; rfl)
  obtain ⟨n, e⟩ : ∃ n, n = l.length := ⟨_, rfl⟩
  rw [← e] at hn h3 h0 C1 C2 C3 ⊢
  clear e hA
  have h1 : (3 : Int) ≤ (n : Int) := by omega
  have h2 : (n : Int) ≤ 64 := by omega
  go_enter Try.func47, Try.ntmps47
  go_wp2_with fail
  refine C1.out.mono ?_
  rintro e w1 ⟨rfl, hb1⟩
  have B1 := hb1
  clear hb1
  cases hm : l.all pmay
  · go_wp2_with fail
    rw [R.out, hm]
    go_ret
    exact ⟨rfl, B1⟩
  · go_wp2_with fail
    refine (C2.out hm _ B1).mono ?_
    rintro e w2 ⟨rfl, hb2⟩
    have B2 := B1.trans (hb2.mono B1.size)
    clear hb2
    cases ht : turnsB l
    · go_wp2_with fail
      refine (C3.out hm _ B2).mono ?_
      rintro e w3 ⟨rfl, hb3⟩
      have B3 := B2.trans (hb3.mono B2.size)
      clear hb3
      go_wp2_with fail
      rw [R.out, hm, ht]
      go_ret
      exact ⟨by simp, B3⟩
    · go_wp2_with fail
      rw [R.out, hm, ht]
      go_ret
      exact ⟨rfl, B2⟩

theorem simple_any (l : List Pnt) (A : Option Addr) (c : Nat) (w : World) (hA : PtsAt w w.heap.size A l) (hn : l.length ≤ 70) :
    Calls Try.prog 47 #[.slice A l.length c] w fun e w' => e = .returned (.bool (simpleB l)) ∧ Below w.heap.size w w' := by
  by_cases h3 : 3 ≤ l.length
  · by_cases h4 : l.length ≤ 64
    · exact simple_mid l A c w hA h3 h4
    · rw [show simpleB l = false by unfold simpleB; rw [decide_eq_false h4]; simp]
      exact simple_many A l.length c w (by omega) hn
  · rw [show simpleB l = false by unfold simpleB; rw [decide_eq_false h3]; simp]
    exact simple_few A l.length c w (by omega)

end Go.Proofs.Ythakngphffoooaa.Pl
