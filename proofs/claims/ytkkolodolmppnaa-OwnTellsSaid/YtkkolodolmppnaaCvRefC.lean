/-
  Contract of the document's answer Cells: the numbers of the cells of a rectangle that may be, rising. Memory that was there is left as it was.
-/
import Derived.Test.YtkkolodolmppnaaCvCodes
import Derived.Test.YtkkolodolmppnaaMoRef
namespace Go.Proofs.Ytkkolodolmppnaa.Cv
open Go.RowKit Go.Proofs.Ytkkolodolmppnaa.Pt Go.Proofs.Ytkkolodolmppnaa.Rc Go.Proofs.Ytkkolodolmppnaa.So Go.Proofs.Ytkkolodolmppnaa.Mo
set_option linter.unusedVariables false

set_option maxHeartbeats 4000000 in
set_option maxRecDepth 100000 in
theorem refCells_any (k : Nat) (x1 y1 x2 y2 : Int) (c1 r1 c2 r2 : Nat) (w : World) (h1 : 24 ≤ k) (h2 : k ≤ 31) (h : rmayB x1 y1 x2 y2 = true) (e1 : colI k x1 = c1) (e2 : colI k y1 = r1) (e3 : colI k x2 = c2) (e4 : colI k y2 = r2)
    (hc : c1 ≤ c2) (hr : r1 ≤ r2) (hc2 : c2 ≤ 190) (hr2 : r2 ≤ 190) :
    Calls Try.prog 24 #[.int .i64 k, .agg #[.int .i64 x1, .int .i64 y1, .int .i64 x2, .int .i64 y2]] w fun e w' =>
      ∃ (u : Value) (ps ys : List Int), e = .returned u ∧ Cells codeI c1 r1 c2 r2 ps ∧ ys.Perm ps ∧ Up ys ∧ Rd w' w'.heap.size u ys ∧ Below w.heap.size w w' := by
  obtain ⟨m1, m2⟩ := rmay_two h
  have K1 := Lib.hid (fun W => refCell_any k x1 W h1 h2 (mayB_bd m1).1)
  have K3 := Lib.hid (fun W => refCell_any k y1 W h1 h2 (mayB_bd m1).2)
  have K2 := Lib.hid (fun W => refCell_any k x2 W h1 h2 (mayB_bd m2).1)
  have K4 := Lib.hid (fun W => refCell_any k y2 W h1 h2 (mayB_bd m2).2)
  rw [e1] at K1
  rw [e2] at K3
  rw [e3] at K2
  rw [e4] at K4
  clear m1 m2 e1 e2 e3 e4 h
  obtain ⟨i0, hi, hz0, hz1, hz2⟩ := info_cut A.info64
  have hFour := Four.new w x1 y1 x2 y2 25
  obtain ⟨v, hv⟩ : ∃ v, v = w.alloc (.cells #[.int .i64 x1, .int .i64 y1, .int .i64 x2, .int .i64 y2] 25) := ⟨_, rfl⟩
  have HV := Lib.hid (show Below w.heap.size w v ∧ w.heap.size ≤ v.heap.size by rw [hv]; exact ⟨(Below.refl _ _).alloc (Nat.le_refl _) _, by simp⟩)
  have HE := Lib.hid hv
  rw [← hv] at hFour
  obtain ⟨B, hB⟩ : ∃ B, B = w.heap.size := ⟨_, rfl⟩
  rw [← hB] at hFour
  have FV := Lib.hid hFour
  have HBE := Lib.hid hB
  clear hv hB hFour
  go_enter Try.func24, Try.ntmps24
  go_wp2_with fail
  refine (K1.out _).mono ?_
  rintro e w1 ⟨rfl, rfl⟩
  go_wp2_with fail
  rw [← HE.out, ← HBE.out]
  go_loopw [6, 5] (fun vi vo wr => CoR v 43 codeI c1 r1 r2 c2 vi vo wr) (fun vi _ _ => c2 + 1 - nOf vi)
  case atStart => exact ⟨c1, [], rfl, Nat.le_refl _, by omega, Coll.start _ _ _ _, World.ownsRow_nil _ _ _ _, Below.refl _ _⟩
  case round =>
    obtain ⟨a, ps, rfl, ha1, ha2, hC, hO, hB⟩ := hrel
    have HC := Lib.hid hC
    have HO := Lib.hid hO
    have HB := Lib.hid hB
    obtain ⟨_, e0, e1, e2, e3⟩ := FV.out.later hB
    clear hC hO hB
    by_cases hlt : a ≤ c2
    · have hz : (a : Int) ≤ (c2 : Int) := by omega
      go_wp2_with fail
      refine (K2.out _).mono ?_
      rintro e w1 ⟨rfl, rfl⟩
      go_wp2_with fail
      refine (K3.out _).mono ?_
      rintro e w1 ⟨rfl, rfl⟩
      go_wp2_with fail
      go_loopw [7, 5] (fun vj vo wr => CoC v 43 codeI c1 r1 r2 a vj vo wr) (fun vj _ _ => r2 + 1 - nOf vj)
      case atStart => exact ⟨r1, ps, rfl, Nat.le_refl _, by omega, HC.out, HO.out, HB.out⟩
      case round =>
        clear e0 e1 e2 e3 HC HO HB
        clear ps
        obtain ⟨b, ps, rfl, hb1, hb2, hC, hO, hB⟩ := hrel
        have HC := Lib.hid hC
        have HO := Lib.hid hO
        have HB := Lib.hid hB
        have hsm := hC.small (by omega) hb2 (by omega)
        have HL := Lib.hid hsm
        obtain ⟨_, e0, e1, e2, e3⟩ := FV.out.later hB
        obtain ⟨n, hn⟩ : ∃ n, n = ps.length := ⟨_, rfl⟩
        have HN := Lib.hid hn
        rw [← hn] at hsm
        clear hC hO hB hn
        by_cases hlt2 : b ≤ r2
        · have hbz : (b : Int) ≤ (r2 : Int) := by omega
          go_wp2_with fail
          refine (K4.out _).mono ?_
          rintro e w1 ⟨rfl, rfl⟩
          go_wp2_with fail
          refine (refCode_any 31 a b wr (by omega) (by omega) (by omega)).mono ?_
          rintro e w1 ⟨rfl, rfl⟩
          obtain ⟨X, hX⟩ : ∃ X : Int, X = codeI a b := ⟨_, rfl⟩
          have HX := Lib.hid hX
          rw [show ((codeF 31 a b : Nat) : Int) = X from hX.symm]
          have OW := Lib.hid (HO.out.alloc (.cells #[.int .u64 X] 43))
          have BW := Lib.hid (HB.out.alloc HB.out.size (.cells #[.int .u64 X] 43))
          have NW := Lib.hid (cell_one_new wr (.int .u64 X) 43)
          rw [← HN.out] at OW
          clear hX HO HB
          go_wp2_with (first | (at_builtin; refine wpList_append_own_at _ rfl _ _ 53 rfl v.heap.size 43 i0 (.int .u64 0) 1 8 Try.underlying53 hi hz0 hz1 hz2 rfl (by decide) _ _ _ rfl OW.out ⟨wr.heap.size, 0, none⟩ 1 1 [.int .u64 X] rfl rfl NW.out (one_u64 [X]) (by unfold maxLen; omega) (by omega) BW.out.size ?_))
          intro v1 w3 hown hgrow _ _
          have HBn := Lib.hid (own_below BW.out OW.out hgrow)
          have HOn := Lib.hid (own_as hown (show u64s ps ++ [.int .u64 X] = u64s (ps ++ [X]) by simp [u64s]))
          have HCn := Lib.hid (HC.out.next ha1 hb1 hlt2 (fun i j h1 h2 h3 => code_inj (by omega) (by omega) (by omega) (by omega) h3))
          clear hgrow hown
          go_wp2
          go_roundw
          case rel => first | exact ⟨b + 1, ps ++ [X], by first | rfl | simp, by omega, by omega, by rw [HX.out]; exact HCn.out, HOn.out, HBn.out⟩ | ((repeat apply Exists.intro); exact ⟨⟨b + 1, ps ++ [X], by first | rfl | simp, by omega, by omega, by rw [HX.out]; exact HCn.out, HOn.out, HBn.out⟩, rfl⟩)
          case measure => simp [nOf]; omega
        · have hbz : ¬ (b : Int) ≤ (r2 : Int) := by omega
          obtain rfl : b = r2 + 1 := by omega
          go_wp2_with fail
          refine (K4.out _).mono ?_
          rintro e w1 ⟨rfl, rfl⟩
          go_wp2_with fail
          go_roundw
          case rel => first | exact ⟨a + 1, ps, by first | rfl | simp, by omega, by omega, HC.out.row ha1 (by omega), HO.out, HB.out⟩ | ((repeat apply Exists.intro); exact ⟨⟨a + 1, ps, by first | rfl | simp, by omega, by omega, HC.out.row ha1 (by omega), HO.out, HB.out⟩, rfl⟩)
          case measure => simp [nOf]; omega
    · have hz : ¬ (a : Int) ≤ (c2 : Int) := by omega
      obtain rfl : a = c2 + 1 := by omega
      go_wp2_with fail
      refine (K2.out _).mono ?_
      rintro e w1 ⟨rfl, rfl⟩
      have hA := HC.out.all
      have h0 : 0 < ps.length := by
        rw [hA.2.2]
        exact Nat.mul_pos (by omega) (by omega)
      have hsm := HC.out.small (by omega) (by omega) (by omega)
      have HR := Lib.hid (own_rd HO.out h0)
      go_wp2_with fail
      refine (sorted_any (ps.length + 1) ps _ _ wr (by omega) (by omega) h0 HR.out).mono ?_
      rintro e w3 ⟨u, ys, rfl, hp, hu, hr, hb3⟩
      go_wp2_with fail
      go_ret
      exact ⟨u, ps, ys, rfl, hA, hp, hu, hr, (HV.out.1.trans (HB.out.mono HV.out.2)).trans (hb3.mono (Nat.le_trans HV.out.2 HB.out.size))⟩
end Go.Proofs.Ytkkolodolmppnaa.Cv
