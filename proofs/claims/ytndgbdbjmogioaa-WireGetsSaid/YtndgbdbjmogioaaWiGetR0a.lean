/-
  Contract of the document's Get for layer 10, messages of one kind (0a). Memory that was there is left as it was.
-/
import Derived.Test.YtndgbdbjmogioaaWiGetR0
namespace Go.Proofs.Ytndgbdbjmogioaa.Wi
open Go.RowKit Go.Proofs.Ytndgbdbjmogioaa.Fl
set_option linter.unusedVariables false
set_option linter.unusedSimpArgs false

set_option maxHeartbeats 16000000
set_option maxRecDepth 100000
theorem getR_0a (a0 : Option Addr) (c0 : Nat) (l : List UInt8) (w : World) (h : BytesAt w (Old w.heap.size) a0 l) (hc : l.length ≤ c0) (e1 : Nat) (l1 : List UInt8) (hk : numS 4 (0, l) = (0, (e1, l1))) (he : e1 = 0) :
    Calls Try.prog 15 #[.slice a0 l.length c0] w fun e w' => GetRE l w w' e := by
  subst he
  obtain ⟨ev, ⟨E, r⟩, k1⟩ : ∃ v t, evS' attsR (7, l1) = (v, t) := ⟨_, _, rfl⟩
  have hst : stR (0, l) = (7, l1) := by
    unfold stR
    rw [hk]
    rw [if_pos ⟨rfl, rfl⟩]
  have HRES := Lib.hid (show msgR (0, l) = (⟨0, 0, 0, 0, 0, 0, 0, 0, [], ev⟩, (E, r)) by
    unfold msgR
    rw [hst, hk]
    show eveS ((0 : Nat) : Int) attsR (7, l1) = _
    unfold eveS mapS
    simp only [k1]
    try rfl)
  have H1 := Lib.hid k1
  obtain ⟨p, hp⟩ : ∃ p, p = w.heap.size + 1 := ⟨_, rfl⟩
  obtain ⟨qm, hqm⟩ : ∃ q, q = w.heap.size + 1 + 1 := ⟨_, rfl⟩
  obtain ⟨n0, hn0⟩ : ∃ n, n = l.length := ⟨_, rfl⟩
  obtain ⟨w1, hw1⟩ : ∃ W0 : World, W0 = w.alloc (.cells #[.int .i64 0, .int .i64 0, .int .i64 0, .int .i64 0, .int .i64 0, .int .i64 0, .int .i64 0, .int .i64 0, .string ⟨#[]⟩, .int .i64 0, .int .u32 0, .int .i64 0, .int .i64 0, .slice none 0 0] 31) := ⟨_, rfl⟩
  have hs1 : w1.heap.size = p := by rw [hw1, hp]; simp
  obtain ⟨w2, hw2⟩ : ∃ W0 : World, W0 = w1.alloc (.cells #[.slice a0 n0 c0, .int .i64 0, .int .i64 0] 71) := ⟨_, rfl⟩
  have hs2 : w2.heap.size = qm := by rw [hw2, hqm, ← hp, ← hs1]; simp
  obtain ⟨w3, hw3⟩ : ∃ W0 : World, W0 = w2.alloc (.cells #[.int .i64 0, .int .i64 0, .int .i64 0, .int .i64 0, .int .i64 0, .int .i64 0, .int .i64 0, .int .i64 0, .string ⟨#[]⟩, .int .i64 0, .int .u32 0, .int .i64 0, .int .i64 0, .slice none 0 0] 31) := ⟨_, rfl⟩
  have G2 := Lib.hid (show w.grownBy w2 (some p) by rw [hw2, hw1]; exact gr_al (World.grownBy_alloc _ _ _) _)
  have R2 := Lib.hid (show RfW w2 p w.heap.size l (0, l) by
    refine ⟨a0, c0, 0, ?_, hc, h.far fun g hg => ⟨hg, G2.out.block g hg (by have : g < w.heap.size := hg; intro e; cases e; omega)⟩, by omega, Nat.zero_le _, fun _ => rfl⟩
    simp only
    rw [hw2, ← hs1, ← hn0]
    exact heap_alloc_new _ _)
  have Q3 := Lib.hid (show Bq w3 w.heap.size 31 #[.int .i64 0, .int .i64 0, .int .i64 0, .int .i64 0, .int .i64 0, .int .i64 0, .int .i64 0, .int .i64 0, .string ⟨#[]⟩, .int .i64 0, .int .u32 0, .int .i64 0, .int .i64 0, .slice none 0 0] by rw [hw3, hw2, hw1]; exact ((Bq.new _ _ _).alloc _).alloc _)
  have P3 := Lib.hid (show Bq w3 qm 31 #[.int .i64 0, .int .i64 0, .int .i64 0, .int .i64 0, .int .i64 0, .int .i64 0, .int .i64 0, .int .i64 0, .string ⟨#[]⟩, .int .i64 0, .int .u32 0, .int .i64 0, .int .i64 0, .slice none 0 0] by rw [hw3, ← hs2]; exact Bq.new _ _ _)
  have G3 := Lib.hid (show w.grownBy w3 (some p) by rw [hw3]; exact gr_al G2.out _)
  have R3 := Lib.hid (show RfW w3 p w.heap.size l (0, l) by rw [hw3]; exact R2.out.alloc _)
  have C := number_rf p w.heap.size 4 (by unfold mx; omega) l (0, l) w3 R3.out
  rw [hk] at C
  have HC := Lib.hid C
  have HW1 := Lib.hid hw1
  have HW2 := Lib.hid hw2
  have HW3 := Lib.hid hw3
  have HPS := Lib.hid hp
  have HQM := Lib.hid hqm
  have HN0 := Lib.hid hn0
  have hne : ¬ w.heap.size = p := by omega
  have hne' : ¬ p = w.heap.size := by omega
  have hne2 : ¬ qm = p := by omega
  have hne2' : ¬ p = qm := by omega
  have hneq : ¬ qm = w.heap.size := by omega
  have hneq2 : ¬ w.heap.size = qm := by omega
  have h63 : n0 ≤ 9223372036854775807 := by have := h.1; unfold maxLen at this; omega
  have HZQ := Lib.hid (show w.heap.size ≤ qm by omega)
  rw [← hn0]
  clear hw1 hw2 hw3 C hs1 hs2 h hc hn0 hk hst k1  
  go_enter Try.func15, Try.ntmps15
  go_wp2_with fail
  rw [← HW1.out, ← HW2.out, ← HW3.out]
  try rw [← HQM.out]
  try rw [← HPS.out]
  clear hp hqm
  refine Calls.mono HC.out ?_
  rintro x w4 ⟨rfl, hr4, hg4⟩
  have G4 := Lib.hid (G3.out.trans hg4)
  have Q4 := Lib.hid (Q3.out.gr hg4 hne)
  have P4 := Lib.hid (P3.out.gr hg4 hne2)
  have R4 := Lib.hid hr4
  clear hr4 hg4
  obtain ⟨w5, hw5⟩ : ∃ W0 : World, W0 = w4.setCell ⟨qm, 0, none⟩ (.int .i64 0) := ⟨_, rfl⟩
  have HW5 := Lib.hid hw5
  have G5 := Lib.hid (show w.grownBy w5 (some p) by rw [hw5]; exact gr_new G4.out HZQ.out _ _)
  have Q5 := Lib.hid (show Bq w5 w.heap.size 31 #[.int .i64 0, .int .i64 0, .int .i64 0, .int .i64 0, .int .i64 0, .int .i64 0, .int .i64 0, .int .i64 0, .string ⟨#[]⟩, .int .i64 0, .int .u32 0, .int .i64 0, .int .i64 0, .slice none 0 0] by rw [hw5]; exact Q4.out.setO hneq2 _ _)
  have P5 := Lib.hid (show Bq w5 qm 31 #[.int .i64 0, .int .i64 0, .int .i64 0, .int .i64 0, .int .i64 0, .int .i64 0, .int .i64 0, .int .i64 0, .string ⟨#[]⟩, .int .i64 0, .int .u32 0, .int .i64 0, .int .i64 0, .slice none 0 0] by rw [hw5]; exact P4.out.set 0 _)
  have R5 := Lib.hid (show RfW w5 p w.heap.size l (0, l1) by rw [hw5]; exact R4.out.set hne2 HZQ.out _ _)
  clear hw5
  obtain ⟨c0, c1, c2, c3, c4, c5, c6, c7, c8, c9, c10, c11, c12, c13⟩ := P4.out.c14
  have hf := P4.out.fr
  obtain ⟨ra, rc, rk, hrb, hrc, hrby, hrz, hrk, hre⟩ := R4.out
  simp only at hrb hre
  rw [← HN0.out] at hrb
  obtain ⟨b0, b1, b2⟩ := hrb.c3
  have bf := hrb.fr
  clear hrb hrc hrby hrz hrk hre
  obtain ⟨w6, hw6⟩ : ∃ W0 : World, W0 = w5.setCell ⟨p, 2, none⟩ (.int .i64 7) := ⟨_, rfl⟩
  have HW6 := Lib.hid hw6
  have G6 := Lib.hid (show w.grownBy w6 (some p) by rw [hw6]; exact gr_p G5.out _ _)
  have Q6 := Lib.hid (show Bq w6 w.heap.size 31 #[.int .i64 0, .int .i64 0, .int .i64 0, .int .i64 0, .int .i64 0, .int .i64 0, .int .i64 0, .int .i64 0, .string ⟨#[]⟩, .int .i64 0, .int .u32 0, .int .i64 0, .int .i64 0, .slice none 0 0] by rw [hw6]; exact Q5.out.setO hne _ _)
  have P6 := Lib.hid (show Bq w6 qm 31 #[.int .i64 0, .int .i64 0, .int .i64 0, .int .i64 0, .int .i64 0, .int .i64 0, .int .i64 0, .int .i64 0, .string ⟨#[]⟩, .int .i64 0, .int .u32 0, .int .i64 0, .int .i64 0, .slice none 0 0] by rw [hw6]; exact P5.out.setO hne2 _ _)
  have R6 := Lib.hid (show RfW w6 p w.heap.size l (7, l1) by rw [hw6]; exact rf_fail R5.out (by decide))
  clear hw6
  go_wp2_with fail
  rw [← HW5.out, ← HW6.out]
  clear c0 c1 c2 c3 c4 c5 c6 c7 c8 c9 c10 c11 c12 c13 hf b0 b1 b2 bf
  have C := event_rf p w.heap.size l (7, l1) w6 R6.out
  rw [H1.out] at C
  have HC6 := Lib.hid C
  clear C
  refine Calls.mono HC6.out ?_
  rintro x w7 ⟨a, c, rfl, hr7, hg7, ha7⟩
  obtain ⟨w8, hw8⟩ : ∃ W0 : World, W0 = (((((w7.setCell ⟨qm, 9, none⟩ (.int .i64 ev.pub)).setCell ⟨qm, 10, none⟩ (.int .u32 (ev.seq : Nat))).setCell ⟨qm, 11, none⟩ (.int .i64 ev.x)).setCell ⟨qm, 12, none⟩ (.int .i64 ev.y)).setCell ⟨qm, 13, none⟩ (.slice a ev.attrs.length c)) := ⟨_, rfl⟩
  have HW8 := Lib.hid hw8
  have P7 := Lib.hid (P6.out.gr hg7 hne2)
  have G8 := Lib.hid (show w.grownBy w8 (some p) by rw [hw8]; exact gr_new (gr_new (gr_new (gr_new (gr_new (G6.out.trans hg7) HZQ.out _ _) HZQ.out _ _) HZQ.out _ _) HZQ.out _ _) HZQ.out _ _)
  have Q8 := Lib.hid (show Bq w8 w.heap.size 31 #[.int .i64 0, .int .i64 0, .int .i64 0, .int .i64 0, .int .i64 0, .int .i64 0, .int .i64 0, .int .i64 0, .string ⟨#[]⟩, .int .i64 0, .int .u32 0, .int .i64 0, .int .i64 0, .slice none 0 0] by rw [hw8]; exact (((((Q6.out.gr hg7 hne).setO hneq2 _ _).setO hneq2 _ _).setO hneq2 _ _).setO hneq2 _ _).setO hneq2 _ _)
  have P8 := Lib.hid (show Bq w8 qm 31 #[.int .i64 0, .int .i64 0, .int .i64 0, .int .i64 0, .int .i64 0, .int .i64 0, .int .i64 0, .int .i64 0, .string ⟨#[]⟩, .int .i64 ev.pub, .int .u32 (ev.seq : Nat), .int .i64 ev.x, .int .i64 ev.y, .slice a ev.attrs.length c] by rw [hw8]; exact (((((P7.out).set 9 _).set 10 _).set 11 _).set 12 _).set 13 _)
  have R8 := Lib.hid (show RfW w8 p w.heap.size l (E, r) by rw [hw8]; exact (((((hr7).set hne2 HZQ.out _ _).set hne2 HZQ.out _ _).set hne2 HZQ.out _ _).set hne2 HZQ.out _ _).set hne2 HZQ.out _ _)
  have AT8 := Lib.hid (show AttsAt w8 (fun g => qm < g ∧ g < w8.heap.size) a ev.attrs by
    rw [hw8]
    exact ha7.far fun g hg => ⟨⟨by have := P6.out.lt; omega, by simpa [World.setCell] using hg.2⟩, by
      have hgn : g ≠ qm := by have := P6.out.lt; omega
      exact (Below.heap_setCell _ _ _ _ hgn).trans ((Below.heap_setCell _ _ _ _ hgn).trans ((Below.heap_setCell _ _ _ _ hgn).trans ((Below.heap_setCell _ _ _ _ hgn).trans (Below.heap_setCell _ _ _ _ hgn))))⟩)
  clear hw8 hr7 hg7 ha7
  obtain ⟨c0, c1, c2, c3, c4, c5, c6, c7, c8, c9, c10, c11, c12, c13⟩ := P7.out.c14
  have hf := P7.out.fr
  go_wp2_with fail
  rw [← HW8.out]
  clear c0 c1 c2 c3 c4 c5 c6 c7 c8 c9 c10 c11 c12 c13 hf
  have C := mayR_any ⟨0, 0, 0, 0, 0, 0, 0, 0, [], ev⟩ ⟨#[]⟩ rfl a c w8 (AT8.out.far fun g hg => ⟨hg.2, rfl⟩)
  obtain ⟨mb, hmb⟩ : ∃ b, msgB ⟨0, 0, 0, 0, 0, 0, 0, 0, [], ev⟩ = b := ⟨_, rfl⟩
  rw [hmb] at C
  have HMB := Lib.hid hmb
  have HC8 := Lib.hid C
  clear C hmb
  refine Calls.mono HC8.out ?_
  rintro x wx ⟨rfl, hb⟩
  have Gx := Lib.hid (gr_below G8.out hb)
  have Qx := Lib.hid (Q8.out.later hb)
  have Px := Lib.hid (P8.out.later hb)
  have Rx := Lib.hid (R8.out.later hb)
  have ATx := Lib.hid (show AttsAt wx (fun g => qm < g ∧ g < wx.heap.size) a ev.attrs from AT8.out.far fun g hg => ⟨⟨hg.1, Nat.lt_of_lt_of_le hg.2 hb.size⟩, hb.block g hg.2⟩)
  clear hb
  have HRD := Lib.hid (show readM l = if E = 0 then (if r.length = 0 ∧ mb = true then (0, ⟨0, 0, 0, 0, 0, 0, 0, 0, [], ev⟩) else (7, msg0)) else (E, msg0) by
    rw [← end_R, HRES.out]
    unfold endS
    simp only [HMB.out])
  obtain ⟨ra, rc, rk, hrb, hrc, hrby, hrz, hrk, hre⟩ := Rx.out
  simp only at hrb hre
  rw [← HN0.out] at hrb hrk
  obtain ⟨b0, b1, b2⟩ := hrb.c3
  have bf := hrb.fr
  have RB := Lib.hid hrb
  have HRE := Lib.hid (show E = 0 → r.length = n0 - rk from fun h => by rw [hre h, List.length_drop, ← HN0.out])
  have HRK := Lib.hid hrk
  clear hrb hrc hrby hrz hrk hre
  by_cases hE : E = 0
  · by_cases hlt : rk < n0
    · have HRR := Lib.hid (show readM l = (7, msg0) by rw [HRD.out, if_pos hE, if_neg (fun h => by have := HRE.out hE; have := h.1; omega)])
      subst hE
      have hlz : (rk : Int) < (n0 : Int) := by omega
      obtain ⟨wy, hwy⟩ : ∃ W0 : World, W0 = wx.setCell ⟨p, 2, none⟩ (.int .i64 7) := ⟨_, rfl⟩
      have HWY := Lib.hid hwy
      have QY := Lib.hid (show Bq wy w.heap.size 31 #[.int .i64 0, .int .i64 0, .int .i64 0, .int .i64 0, .int .i64 0, .int .i64 0, .int .i64 0, .int .i64 0, .string ⟨#[]⟩, .int .i64 0, .int .u32 0, .int .i64 0, .int .i64 0, .slice none 0 0] by rw [hwy]; exact Qx.out.setO hne _ _)
      have GY := Lib.hid (show w.grownBy wy (some p) by rw [hwy]; exact gr_p Gx.out _ _)
      have BY := Lib.hid (show Bq wy p 71 #[.slice ra n0 rc, .int .i64 (rk : Nat), .int .i64 7] by rw [hwy]; exact RB.out.set 2 _)
      clear hwy
      go_wp2_with fail
      rw [← HWY.out]
      clear b0 b1 b2 bf
      obtain ⟨b0, b1, b2⟩ := BY.out.c3
      have bf := BY.out.fr
      have QD := Lib.hid (show Bq wy.drew w.heap.size 31 #[.int .i64 0, .int .i64 0, .int .i64 0, .int .i64 0, .int .i64 0, .int .i64 0, .int .i64 0, .int .i64 0, .string ⟨#[]⟩, .int .i64 0, .int .u32 0, .int .i64 0, .int .i64 0, .slice none 0 0] from QY.out)
      have HS0 := Lib.hid (show (fun W => W.cell? ⟨p, 2, none⟩ = some (.int .i64 7) ∧ ∃ cs, Bq W w.heap.size 31 cs ∧ cs.size = 14) wy.drew from ⟨b2, _, QY.out, rfl⟩)
      refine wp_region_held_drew (S := (fun W => W.cell? ⟨p, 2, none⟩ = some (.int .i64 7) ∧ ∃ cs, Bq W w.heap.size 31 cs ∧ cs.size = 14)) (by kernel_rfl) HS0.out (fun hHeld => ?_)
      clear b0 b1 b2 bf
      refine wpAnyH_take (i := 0) (v := ?vA0) rfl (by kernel_rfl) (by kernel_rfl) (by kernel_rfl) (fun _ _ _ h => h) (Or.inl ⟨by rfl, ?yA0⟩) hHeld ?rA0
      case yA0 => (intro W hSw; simp only [List.getElem_toArray, List.getElem_cons_succ, List.getElem_cons_zero]; go_simp; try (with_reducible rfl))
      simp only [List.getElem_toArray, List.getElem_cons_succ, List.getElem_cons_zero, Act.put, List.setIfInBounds_toArray, List.set_cons_zero, List.set_cons_succ]
      refine wpAnyH_take (i := 1) (v := ?vA1) rfl (by kernel_rfl) (by kernel_rfl) (by kernel_rfl) (fun _ _ _ h => h) (Or.inl ⟨by rfl, ?yA1⟩) hHeld ?rA1
      case yA1 => (intro W hSw; simp only [List.getElem_toArray, List.getElem_cons_succ, List.getElem_cons_zero]; go_simp; try (with_reducible rfl))
      simp only [List.getElem_toArray, List.getElem_cons_succ, List.getElem_cons_zero, Act.put, List.setIfInBounds_toArray, List.set_cons_zero, List.set_cons_succ]
      refine wpAnyH_take (i := 2) (v := ?vA2) rfl (by kernel_rfl) (by kernel_rfl) (by kernel_rfl) (fun _ _ _ h => h) (Or.inl ⟨by rfl, ?yA2⟩) hHeld ?rA2
      case yA2 => (intro W hSw; simp only [List.getElem_toArray, List.getElem_cons_succ, List.getElem_cons_zero]; go_simp; try (with_reducible rfl))
      simp only [List.getElem_toArray, List.getElem_cons_succ, List.getElem_cons_zero, Act.put, List.setIfInBounds_toArray, List.set_cons_zero, List.set_cons_succ]
      refine wpAnyH_take (i := 3) (v := ?vA3) rfl (by kernel_rfl) (by kernel_rfl) (by kernel_rfl) (fun _ _ _ h => h) (Or.inl ⟨by rfl, ?yA3⟩) hHeld ?rA3
      case yA3 => (intro W hSw; simp only [List.getElem_toArray, List.getElem_cons_succ, List.getElem_cons_zero]; go_simp; try (with_reducible rfl))
      simp only [List.getElem_toArray, List.getElem_cons_succ, List.getElem_cons_zero, Act.put, List.setIfInBounds_toArray, List.set_cons_zero, List.set_cons_succ]
      refine wpAnyH_take (i := 4) (v := ?vA4) rfl (by kernel_rfl) (by kernel_rfl) (by kernel_rfl) (fun _ _ _ h => h) (Or.inl ⟨by rfl, ?yA4⟩) hHeld ?rA4
      case yA4 => (intro W hSw; simp only [List.getElem_toArray, List.getElem_cons_succ, List.getElem_cons_zero]; go_simp; try (with_reducible rfl))
      simp only [List.getElem_toArray, List.getElem_cons_succ, List.getElem_cons_zero, Act.put, List.setIfInBounds_toArray, List.set_cons_zero, List.set_cons_succ]
      refine wpAnyH_ready (rs := [5]) (by kernel_rfl) (by simp) (AllReadyH.cons rfl (fun K hK => ?_) AllReadyH.nil)
      simp only [List.getElem_toArray, List.getElem_cons_succ, List.getElem_cons_zero]
      refine wp_store_row _ _ _ rfl w.heap.size #[.int .i64 0, .int .i64 0, .int .i64 0, .int .i64 0, .int .i64 0, .int .i64 0, .int .i64 0, .int .i64 0, .string ⟨#[]⟩, .int .i64 0, .int .u32 0, .int .i64 0, .int .i64 0, .slice none 0 0] rfl rfl _ _ QD.out (by kernel_rfl) rfl (by simp [Value.oneCell']) ?_
      refine hK.out _ _ (⟨(World.cell?_of_block (w := wy.drew) (a := ⟨p, 2, none⟩) (setRow_other _ _ _ _ (fun e => hne e.symm))).trans hHeld.1, _, QD.out.row _, rfl⟩) (fun hHeld1 => ?_)
      clear hK K hHeld
      have hHeld := hHeld1; clear hHeld1
      try simp only [List.getElem_toArray, List.getElem_cons_succ, List.getElem_cons_zero, Act.put, List.setIfInBounds_toArray, List.set_cons_zero, List.set_cons_succ]
      refine wpAnyH_take (i := 6) (v := ?vA6) rfl (by kernel_rfl) (by kernel_rfl) (by kernel_rfl) (fun _ _ _ h => h) (Or.inl ⟨by rfl, ?yA6⟩) hHeld ?rA6
      case yA6 => (intro W hSw; simp only [List.getElem_toArray, List.getElem_cons_succ, List.getElem_cons_zero]; go_simp; try (with_reducible rfl))
      simp only [List.getElem_toArray, List.getElem_cons_succ, List.getElem_cons_zero, Act.put, List.setIfInBounds_toArray, List.set_cons_zero, List.set_cons_succ]
      refine wpAnyH_done (by kernel_rfl) ?_ _
      clear hHeld
      go_wp2_with fail
      refine ret14b Try.results15 rfl rfl (QD.out.row _) rfl ?_
      refine ⟨none, 0, ?_, ?_, ?_⟩
      · rw [HRR.out]
        rfl
      · rw [HRR.out]
        exact atts_none2 _ _ _
      · exact ⟨GY.out.os, GY.out.tape, GY.out.output, by have := GY.out.size; simpa using this, fun k hk => (setRow_other _ _ _ _ (by omega)).trans (GY.out.block k hk (by have := HPS.out; intro e; cases e; omega))⟩
    · have hlz : ¬ (rk : Int) < (n0 : Int) := by omega
      by_cases hmt : mb = true
      · have HRR := Lib.hid (show readM l = (0, ⟨0, 0, 0, 0, 0, 0, 0, 0, [], ev⟩) by rw [HRD.out, if_pos hE, if_pos ⟨by have := HRE.out hE; omega, hmt⟩])
        subst hE
        subst hmt
        obtain ⟨c0, c1, c2, c3, c4, c5, c6, c7, c8, c9, c10, c11, c12, c13⟩ := Px.out.c14
        go_wp2_with (skip; (refine wpList_store_rowTo rfl _ _ _ rfl rfl w.heap.size _ rfl rfl _ #[.int .i64 0, .int .i64 0, .int .i64 0, .int .i64 0, .int .i64 0, .int .i64 0, .int .i64 0, .int .i64 0, .string ⟨#[]⟩, .int .i64 0, .int .u32 0, .int .i64 0, .int .i64 0, .slice none 0 0] Qx.out (by kernel_rfl) rfl (by simp [Value.oneCell']) ?_))
        refine ret14b Try.results15 rfl rfl (Qx.out.row _) rfl ?_
        refine ⟨a, c, ?_, ?_, ?_⟩
        · rw [HRR.out]
          rfl
        · rw [HRR.out]
          exact ATx.out.far fun g hg => ⟨by have := hg.2; unfold Old; simpa using this, setRow_other _ _ _ _ (by have := hg.1; have := HZQ.out; omega)⟩
        · exact ⟨Gx.out.os, Gx.out.tape, Gx.out.output, by have := Gx.out.size; simpa using this, fun k hk => (setRow_other _ _ _ _ (by omega)).trans (Gx.out.block k hk (by have := HPS.out; intro e; cases e; omega))⟩
      · have HRR := Lib.hid (show readM l = (7, msg0) by rw [HRD.out, if_pos hE, if_neg (fun h => hmt h.2)])
        subst hE
        obtain rfl : mb = false := by simpa using hmt
        obtain ⟨wy, hwy⟩ : ∃ W0 : World, W0 = wx.setCell ⟨p, 2, none⟩ (.int .i64 7) := ⟨_, rfl⟩
        have HWY := Lib.hid hwy
        have QY := Lib.hid (show Bq wy w.heap.size 31 #[.int .i64 0, .int .i64 0, .int .i64 0, .int .i64 0, .int .i64 0, .int .i64 0, .int .i64 0, .int .i64 0, .string ⟨#[]⟩, .int .i64 0, .int .u32 0, .int .i64 0, .int .i64 0, .slice none 0 0] by rw [hwy]; exact Qx.out.setO hne _ _)
        have GY := Lib.hid (show w.grownBy wy (some p) by rw [hwy]; exact gr_p Gx.out _ _)
        have BY := Lib.hid (show Bq wy p 71 #[.slice ra n0 rc, .int .i64 (rk : Nat), .int .i64 7] by rw [hwy]; exact RB.out.set 2 _)
        clear hwy
        go_wp2_with fail
        rw [← HWY.out]
        clear b0 b1 b2 bf
        obtain ⟨b0, b1, b2⟩ := BY.out.c3
        have bf := BY.out.fr
        have QD := Lib.hid (show Bq wy.drew w.heap.size 31 #[.int .i64 0, .int .i64 0, .int .i64 0, .int .i64 0, .int .i64 0, .int .i64 0, .int .i64 0, .int .i64 0, .string ⟨#[]⟩, .int .i64 0, .int .u32 0, .int .i64 0, .int .i64 0, .slice none 0 0] from QY.out)
        have HS0 := Lib.hid (show (fun W => W.cell? ⟨p, 2, none⟩ = some (.int .i64 7) ∧ ∃ cs, Bq W w.heap.size 31 cs ∧ cs.size = 14) wy.drew from ⟨b2, _, QY.out, rfl⟩)
        refine wp_region_held_drew (S := (fun W => W.cell? ⟨p, 2, none⟩ = some (.int .i64 7) ∧ ∃ cs, Bq W w.heap.size 31 cs ∧ cs.size = 14)) (by kernel_rfl) HS0.out (fun hHeld => ?_)
        clear b0 b1 b2 bf
        refine wpAnyH_take (i := 0) (v := ?vB0) rfl (by kernel_rfl) (by kernel_rfl) (by kernel_rfl) (fun _ _ _ h => h) (Or.inl ⟨by rfl, ?yB0⟩) hHeld ?rB0
        case yB0 => (intro W hSw; simp only [List.getElem_toArray, List.getElem_cons_succ, List.getElem_cons_zero]; go_simp; try (with_reducible rfl))
        simp only [List.getElem_toArray, List.getElem_cons_succ, List.getElem_cons_zero, Act.put, List.setIfInBounds_toArray, List.set_cons_zero, List.set_cons_succ]
        refine wpAnyH_take (i := 1) (v := ?vB1) rfl (by kernel_rfl) (by kernel_rfl) (by kernel_rfl) (fun _ _ _ h => h) (Or.inl ⟨by rfl, ?yB1⟩) hHeld ?rB1
        case yB1 => (intro W hSw; simp only [List.getElem_toArray, List.getElem_cons_succ, List.getElem_cons_zero]; go_simp; try (with_reducible rfl))
        simp only [List.getElem_toArray, List.getElem_cons_succ, List.getElem_cons_zero, Act.put, List.setIfInBounds_toArray, List.set_cons_zero, List.set_cons_succ]
        refine wpAnyH_take (i := 2) (v := ?vB2) rfl (by kernel_rfl) (by kernel_rfl) (by kernel_rfl) (fun _ _ _ h => h) (Or.inl ⟨by rfl, ?yB2⟩) hHeld ?rB2
        case yB2 => (intro W hSw; simp only [List.getElem_toArray, List.getElem_cons_succ, List.getElem_cons_zero]; go_simp; try (with_reducible rfl))
        simp only [List.getElem_toArray, List.getElem_cons_succ, List.getElem_cons_zero, Act.put, List.setIfInBounds_toArray, List.set_cons_zero, List.set_cons_succ]
        refine wpAnyH_take (i := 3) (v := ?vB3) rfl (by kernel_rfl) (by kernel_rfl) (by kernel_rfl) (fun _ _ _ h => h) (Or.inl ⟨by rfl, ?yB3⟩) hHeld ?rB3
        case yB3 => (intro W hSw; simp only [List.getElem_toArray, List.getElem_cons_succ, List.getElem_cons_zero]; go_simp; try (with_reducible rfl))
        simp only [List.getElem_toArray, List.getElem_cons_succ, List.getElem_cons_zero, Act.put, List.setIfInBounds_toArray, List.set_cons_zero, List.set_cons_succ]
        refine wpAnyH_take (i := 4) (v := ?vB4) rfl (by kernel_rfl) (by kernel_rfl) (by kernel_rfl) (fun _ _ _ h => h) (Or.inl ⟨by rfl, ?yB4⟩) hHeld ?rB4
        case yB4 => (intro W hSw; simp only [List.getElem_toArray, List.getElem_cons_succ, List.getElem_cons_zero]; go_simp; try (with_reducible rfl))
        simp only [List.getElem_toArray, List.getElem_cons_succ, List.getElem_cons_zero, Act.put, List.setIfInBounds_toArray, List.set_cons_zero, List.set_cons_succ]
        refine wpAnyH_ready (rs := [5]) (by kernel_rfl) (by simp) (AllReadyH.cons rfl (fun K hK => ?_) AllReadyH.nil)
        simp only [List.getElem_toArray, List.getElem_cons_succ, List.getElem_cons_zero]
        refine wp_store_row _ _ _ rfl w.heap.size #[.int .i64 0, .int .i64 0, .int .i64 0, .int .i64 0, .int .i64 0, .int .i64 0, .int .i64 0, .int .i64 0, .string ⟨#[]⟩, .int .i64 0, .int .u32 0, .int .i64 0, .int .i64 0, .slice none 0 0] rfl rfl _ _ QD.out (by kernel_rfl) rfl (by simp [Value.oneCell']) ?_
        refine hK.out _ _ (⟨(World.cell?_of_block (w := wy.drew) (a := ⟨p, 2, none⟩) (setRow_other _ _ _ _ (fun e => hne e.symm))).trans hHeld.1, _, QD.out.row _, rfl⟩) (fun hHeld1 => ?_)
        clear hK K hHeld
        have hHeld := hHeld1; clear hHeld1
        try simp only [List.getElem_toArray, List.getElem_cons_succ, List.getElem_cons_zero, Act.put, List.setIfInBounds_toArray, List.set_cons_zero, List.set_cons_succ]
        refine wpAnyH_take (i := 6) (v := ?vB6) rfl (by kernel_rfl) (by kernel_rfl) (by kernel_rfl) (fun _ _ _ h => h) (Or.inl ⟨by rfl, ?yB6⟩) hHeld ?rB6
        case yB6 => (intro W hSw; simp only [List.getElem_toArray, List.getElem_cons_succ, List.getElem_cons_zero]; go_simp; try (with_reducible rfl))
        simp only [List.getElem_toArray, List.getElem_cons_succ, List.getElem_cons_zero, Act.put, List.setIfInBounds_toArray, List.set_cons_zero, List.set_cons_succ]
        refine wpAnyH_done (by kernel_rfl) ?_ _
        clear hHeld
        go_wp2_with fail
        refine ret14b Try.results15 rfl rfl (QD.out.row _) rfl ?_
        refine ⟨none, 0, ?_, ?_, ?_⟩
        · rw [HRR.out]
          rfl
        · rw [HRR.out]
          exact atts_none2 _ _ _
        · exact ⟨GY.out.os, GY.out.tape, GY.out.output, by have := GY.out.size; simpa using this, fun k hk => (setRow_other _ _ _ _ (by omega)).trans (GY.out.block k hk (by have := HPS.out; intro e; cases e; omega))⟩
  · have htz : ((E : Int) == 0) = false := by rw [beq_eq_false_iff_ne]; omega
    have htz2 : ((E : Int) != 0) = true := by rw [bne_iff_ne]; omega
    have htz3 : ¬ (E : Int) = 0 := by omega
    have HRR := Lib.hid (show readM l = (E, msg0) by rw [HRD.out, if_neg hE])
    have QY := Qx
    have GY := Gx
    go_wp2_with fail
    have QD := Lib.hid (show Bq wx.drew w.heap.size 31 #[.int .i64 0, .int .i64 0, .int .i64 0, .int .i64 0, .int .i64 0, .int .i64 0, .int .i64 0, .int .i64 0, .string ⟨#[]⟩, .int .i64 0, .int .u32 0, .int .i64 0, .int .i64 0, .slice none 0 0] from QY.out)
    have HS0 := Lib.hid (show (fun W => W.cell? ⟨p, 2, none⟩ = some (.int .i64 (E : Nat)) ∧ ∃ cs, Bq W w.heap.size 31 cs ∧ cs.size = 14) wx.drew from ⟨b2, _, QY.out, rfl⟩)
    refine wp_region_held_drew (S := (fun W => W.cell? ⟨p, 2, none⟩ = some (.int .i64 (E : Nat)) ∧ ∃ cs, Bq W w.heap.size 31 cs ∧ cs.size = 14)) (by kernel_rfl) HS0.out (fun hHeld => ?_)
    clear b0 b1 b2 bf
    refine wpAnyH_take (i := 0) (v := ?vC0) rfl (by kernel_rfl) (by kernel_rfl) (by kernel_rfl) (fun _ _ _ h => h) (Or.inl ⟨by rfl, ?yC0⟩) hHeld ?rC0
    case yC0 => (intro W hSw; simp only [List.getElem_toArray, List.getElem_cons_succ, List.getElem_cons_zero]; go_simp; try (with_reducible rfl))
    simp only [List.getElem_toArray, List.getElem_cons_succ, List.getElem_cons_zero, Act.put, List.setIfInBounds_toArray, List.set_cons_zero, List.set_cons_succ]
    refine wpAnyH_take (i := 1) (v := ?vC1) rfl (by kernel_rfl) (by kernel_rfl) (by kernel_rfl) (fun _ _ _ h => h) (Or.inl ⟨by rfl, ?yC1⟩) hHeld ?rC1
    case yC1 => (intro W hSw; simp only [List.getElem_toArray, List.getElem_cons_succ, List.getElem_cons_zero]; go_simp; try (with_reducible rfl))
    simp only [List.getElem_toArray, List.getElem_cons_succ, List.getElem_cons_zero, Act.put, List.setIfInBounds_toArray, List.set_cons_zero, List.set_cons_succ]
    refine wpAnyH_take (i := 2) (v := ?vC2) rfl (by kernel_rfl) (by kernel_rfl) (by kernel_rfl) (fun _ _ _ h => h) (Or.inl ⟨by rfl, ?yC2⟩) hHeld ?rC2
    case yC2 => (intro W hSw; simp only [List.getElem_toArray, List.getElem_cons_succ, List.getElem_cons_zero]; go_simp; try (with_reducible rfl))
    simp only [List.getElem_toArray, List.getElem_cons_succ, List.getElem_cons_zero, Act.put, List.setIfInBounds_toArray, List.set_cons_zero, List.set_cons_succ]
    refine wpAnyH_take (i := 3) (v := ?vC3) rfl (by kernel_rfl) (by kernel_rfl) (by kernel_rfl) (fun _ _ _ h => h) (Or.inl ⟨by rfl, ?yC3⟩) hHeld ?rC3
    case yC3 => (intro W hSw; simp only [List.getElem_toArray, List.getElem_cons_succ, List.getElem_cons_zero]; go_simp; try (with_reducible rfl))
    simp only [List.getElem_toArray, List.getElem_cons_succ, List.getElem_cons_zero, Act.put, List.setIfInBounds_toArray, List.set_cons_zero, List.set_cons_succ]
    refine wpAnyH_take (i := 4) (v := ?vC4) rfl (by kernel_rfl) (by kernel_rfl) (by kernel_rfl) (fun _ _ _ h => h) (Or.inl ⟨by rfl, ?yC4⟩) hHeld ?rC4
    case yC4 => (intro W hSw; simp only [List.getElem_toArray, List.getElem_cons_succ, List.getElem_cons_zero]; go_simp; try (with_reducible rfl))
    simp only [List.getElem_toArray, List.getElem_cons_succ, List.getElem_cons_zero, Act.put, List.setIfInBounds_toArray, List.set_cons_zero, List.set_cons_succ]
    refine wpAnyH_ready (rs := [5]) (by kernel_rfl) (by simp) (AllReadyH.cons rfl (fun K hK => ?_) AllReadyH.nil)
    simp only [List.getElem_toArray, List.getElem_cons_succ, List.getElem_cons_zero]
    refine wp_store_row _ _ _ rfl w.heap.size #[.int .i64 0, .int .i64 0, .int .i64 0, .int .i64 0, .int .i64 0, .int .i64 0, .int .i64 0, .int .i64 0, .string ⟨#[]⟩, .int .i64 0, .int .u32 0, .int .i64 0, .int .i64 0, .slice none 0 0] rfl rfl _ _ QD.out (by kernel_rfl) rfl (by simp [Value.oneCell']) ?_
    refine hK.out _ _ (⟨(World.cell?_of_block (w := wx.drew) (a := ⟨p, 2, none⟩) (setRow_other _ _ _ _ (fun e => hne e.symm))).trans hHeld.1, _, QD.out.row _, rfl⟩) (fun hHeld1 => ?_)
    clear hK K hHeld
    have hHeld := hHeld1; clear hHeld1
    try simp only [List.getElem_toArray, List.getElem_cons_succ, List.getElem_cons_zero, Act.put, List.setIfInBounds_toArray, List.set_cons_zero, List.set_cons_succ]
    refine wpAnyH_take (i := 6) (v := ?vC6) rfl (by kernel_rfl) (by kernel_rfl) (by kernel_rfl) (fun _ _ _ h => h) (Or.inl ⟨by rfl, ?yC6⟩) hHeld ?rC6
    case yC6 => (intro W hSw; simp only [List.getElem_toArray, List.getElem_cons_succ, List.getElem_cons_zero]; go_simp; try (with_reducible rfl))
    simp only [List.getElem_toArray, List.getElem_cons_succ, List.getElem_cons_zero, Act.put, List.setIfInBounds_toArray, List.set_cons_zero, List.set_cons_succ]
    refine wpAnyH_done (by kernel_rfl) ?_ _
    clear hHeld
    go_wp2_with fail
    refine ret14b Try.results15 rfl rfl (QD.out.row _) rfl ?_
    refine ⟨none, 0, ?_, ?_, ?_⟩
    · rw [HRR.out]
      rfl
    · rw [HRR.out]
      exact atts_none2 _ _ _
    · exact ⟨GY.out.os, GY.out.tape, GY.out.output, by have := GY.out.size; simpa using this, fun k hk => (setRow_other _ _ _ _ (by omega)).trans (GY.out.block k hk (by have := HPS.out; intro e; cases e; omega))⟩
end Go.Proofs.Ytndgbdbjmogioaa.Wi
