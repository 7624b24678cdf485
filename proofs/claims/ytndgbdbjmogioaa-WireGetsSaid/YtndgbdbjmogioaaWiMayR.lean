/-
  Contract of May of the document's answer for layer 10: may a message be? Memory that was there is left as it was.
-/
import Derived.Test.YtndgbdbjmogioaaWiEvR
import Derived.Test.YtndgbdbjmogioaaWiMayP
import Derived.Test.YtndgbdbjmogioaaRcMidA
namespace Go.Proofs.Ytndgbdbjmogioaa.Wi
open Go.RowKit Go.Proofs.Ytndgbdbjmogioaa.Fl
set_option linter.unusedVariables false
set_option linter.unusedSimpArgs false

theorem may_ref (m : Msg) (h : (num31 m.sub && num31 m.ver && num31 m.home && decide (m.flt.length ≤ 500)) = true) (r5 e8 e9 b1 b2 b3 s0 v0 : Bool) (q5 : Rc.rmayB m.x1 m.y1 m.x2 m.y2 = r5) (q8 : noEv m.ev = e8) (q9 : evB m.ev = e9) (h1 : (m.home == 0) = b1) (h2 : recZ m = b2) (h3 : (m.flt == []) = b3) (hs : (m.sub == 0) = s0) (hv : (m.ver == 0) = v0) :
    msgB m = if m.kind = 1 then r5 && e8 else if m.kind = 2 then (b1 && b2 && b3) && e8 else if m.kind = 3 then (b1 && b2 && b3) && s0 && v0 && e9 else if m.kind = 4 then (b1 && b2 && b3) && v0 && e9 else false := by
  unfold msgB bareB
  rw [h, Bool.true_and, ← rmay_coord, q5, q8, q9, h1, show (m.x1 == 0 && m.y1 == 0 && m.x2 == 0 && m.y2 == 0) = recZ m from rfl, h2, h3, hs, hv]
set_option maxHeartbeats 8000000
set_option maxRecDepth 100000
theorem mayR_any (m : Msg) (sf : ByteArray) (hf : sf.data.toList = m.flt) (a : Option Addr) (c : Nat) (w : World) (hA : AttsAt w (Old w.heap.size) a m.ev.attrs) :
    Calls Try.prog 8 #[.agg #[.int .i64 m.kind, .int .i64 m.sub, .int .i64 m.ver, .int .i64 m.home, .int .i64 m.x1, .int .i64 m.y1, .int .i64 m.x2, .int .i64 m.y2, .string sf, .int .i64 m.ev.pub, .int .u32 (m.ev.seq : Nat), .int .i64 m.ev.x, .int .i64 m.ev.y, .slice a m.ev.attrs.length c]] w fun x w' => x = .returned (.bool (msgB m)) ∧ Below w.heap.size w w' := by
  have hsz : sf.size = m.flt.length := by rw [← hf]; simp
  have C5 := Lib.hid (fun W => Rc.refRect_any m.x1 m.y1 m.x2 m.y2 W)
  have C8 := Lib.hid (fun W => none_any m.ev a c W)
  have C9 := Lib.hid (fun W (hW : Below w.heap.size w W) => eventR_any m.ev a c W (hA.far fun g hg => ⟨Nat.lt_of_lt_of_le hg hW.size, hW.block g hg⟩))
  obtain ⟨r5, hr5⟩ : ∃ b : Bool, (Rc.rmayB m.x1 m.y1 m.x2 m.y2) = b := ⟨_, rfl⟩
  obtain ⟨e8, he8⟩ : ∃ b : Bool, (noEv m.ev) = b := ⟨_, rfl⟩
  obtain ⟨e9, he9⟩ : ∃ b : Bool, (evB m.ev) = b := ⟨_, rfl⟩
  obtain ⟨b1, hb1⟩ : ∃ b : Bool, (m.home == 0) = b := ⟨_, rfl⟩
  obtain ⟨b2, hb2⟩ : ∃ b : Bool, (m.x1 == 0 && m.y1 == 0 && m.x2 == 0 && m.y2 == 0) = b := ⟨_, rfl⟩
  obtain ⟨b3, hb3⟩ : ∃ b : Bool, (m.flt == []) = b := ⟨_, rfl⟩
  obtain ⟨s0, hs0⟩ : ∃ b : Bool, (m.sub == 0) = b := ⟨_, rfl⟩
  obtain ⟨v0, hv0⟩ : ∃ b : Bool, (m.ver == 0) = b := ⟨_, rfl⟩
  have HM := Lib.hid (fun h => may_ref m h r5 e8 e9 b1 b2 b3 s0 v0 hr5 he8 he9 hb1 hb2 hb3 hs0 hv0)
  rw [← hsz] at HM
  have qr := eql_rect m.x1 m.y1 m.x2 m.y2 0 0 0 0
  rw [hb2] at qr
  have q3 : sf.toList.isEmpty = b3 := by rw [Lib.toList_data, hf, ← hb3]; cases m.flt <;> rfl
  rw [hr5] at C5
  rw [he8] at C8
  rw [he9] at C9
  obtain ⟨w1, hw1⟩ : ∃ W0 : World, W0 = w.alloc (.cells #[.int .i64 m.kind, .int .i64 m.sub, .int .i64 m.ver, .int .i64 m.home, .int .i64 m.x1, .int .i64 m.y1, .int .i64 m.x2, .int .i64 m.y2, .string sf, .int .i64 m.ev.pub, .int .u32 (m.ev.seq : Nat), .int .i64 m.ev.x, .int .i64 m.ev.y, .slice a m.ev.attrs.length c] 31) := ⟨_, rfl⟩
  have B1 := Lib.hid (show Below w.heap.size w w1 by rw [hw1]; exact below_alloc _ _)
  have Z1 := Lib.hid (show Bx w1 none (.bool false) w.heap.size 31 #[.int .i64 m.kind, .int .i64 m.sub, .int .i64 m.ver, .int .i64 m.home, .int .i64 m.x1, .int .i64 m.y1, .int .i64 m.x2, .int .i64 m.y2, .string sf, .int .i64 m.ev.pub, .int .u32 (m.ev.seq : Nat), .int .i64 m.ev.x, .int .i64 m.ev.y, .slice a m.ev.attrs.length c] by rw [hw1]; exact ⟨heap_alloc_new w _, by simp, by simp [Value.ownBlock]⟩)
  have HW := Lib.hid hw1
  obtain ⟨res, hres⟩ : ∃ x, x = msgB m := ⟨_, rfl⟩
  have HR := Lib.hid hres
  have BAD := Lib.hid (show (num31 m.sub && num31 m.ver && num31 m.home && decide (sf.size ≤ 500)) = false → res = false by
    intro h
    rw [hres]
    unfold msgB
    rw [← hsz, h]
    rfl)
  rw [← hres]
  obtain ⟨K, hK⟩ : ∃ K, K = m.kind := ⟨_, rfl⟩
  rw [← hK] at HM
  have HKK := Lib.hid hK
  clear hr5 he8 he9 hb2 hb3 hw1 hres hA hf hsz hK
  by_cases p1 : m.sub < 0
  · have HF := Lib.hid (BAD.out (by rw [show num31 m.sub = false by simp [num31]; omega]; simp))
    go_enter Try.func8, Try.ntmps8
    go_wp2_with fail
    go_ret
    rw [← HW.out]
    exact ⟨by rw [HF.out]; first | rfl | simp, B1.out⟩
  · by_cases p2 : m.ver < 0
    · have HF := Lib.hid (BAD.out (by rw [show num31 m.ver = false by simp [num31]; omega]; simp))
      go_enter Try.func8, Try.ntmps8
      go_wp2_with fail
      go_ret
      rw [← HW.out]
      exact ⟨by rw [HF.out]; first | rfl | simp, B1.out⟩
    · by_cases p3 : m.home < 0
      · have HF := Lib.hid (BAD.out (by rw [show num31 m.home = false by simp [num31]; omega]; simp))
        go_enter Try.func8, Try.ntmps8
        go_wp2_with fail
        go_ret
        rw [← HW.out]
        exact ⟨by rw [HF.out]; first | rfl | simp, B1.out⟩
      · by_cases p4 : 2147483647 < m.sub
        · have HF := Lib.hid (BAD.out (by rw [show num31 m.sub = false by simp [num31]; omega]; simp))
          go_enter Try.func8, Try.ntmps8
          go_wp2_with fail
          go_ret
          rw [← HW.out]
          exact ⟨by rw [HF.out]; first | rfl | simp, B1.out⟩
        · by_cases p5 : 2147483647 < m.ver
          · have HF := Lib.hid (BAD.out (by rw [show num31 m.ver = false by simp [num31]; omega]; simp))
            go_enter Try.func8, Try.ntmps8
            go_wp2_with fail
            go_ret
            rw [← HW.out]
            exact ⟨by rw [HF.out]; first | rfl | simp, B1.out⟩
          · by_cases p6 : 2147483647 < m.home
            · have HF := Lib.hid (BAD.out (by rw [show num31 m.home = false by simp [num31]; omega]; simp))
              go_enter Try.func8, Try.ntmps8
              go_wp2_with fail
              go_ret
              rw [← HW.out]
              exact ⟨by rw [HF.out]; first | rfl | simp, B1.out⟩
            · by_cases p7 : (500 : Int) < (sf.size : Int)
              · have HF := Lib.hid (BAD.out (by rw [show decide (sf.size ≤ 500) = false from decide_eq_false (by omega)]; simp))
                go_enter Try.func8, Try.ntmps8
                go_wp2_with fail
                go_ret
                rw [← HW.out]
                exact ⟨by rw [HF.out]; first | rfl | simp, B1.out⟩
              · have HP := Lib.hid (HM.out (by rw [show num31 m.sub = true by simp [num31]; omega, show num31 m.ver = true by simp [num31]; omega, show num31 m.home = true by simp [num31]; omega, show decide (sf.size ≤ 500) = true from decide_eq_true (by omega)]; rfl))
                go_enter Try.func8, Try.ntmps8
                go_wp2_with fail
                rw [← HW.out]
                clear p1 p2 p3 p4 p5 p6 p7
                refine Calls.mono (C5.out _) ?_
                rintro x w2 ⟨rfl, hb⟩
                have B2 := Lib.hid (B1.out.trans (hb.mono B1.out.size))
                have Z2 := Lib.hid (Z1.out.later hb)
                clear hb
                obtain ⟨x0, x1, x2, x3, x4, x5, x6, x7, x8, x9, x10, x11, x12, x13⟩ := Z2.out.c14
                go_wp2_with fail
                refine Calls.mono (C8.out _) ?_
                rintro x w3 ⟨rfl, hb⟩
                have B3 := Lib.hid (B2.out.trans (hb.mono B2.out.size))
                have Z3 := Lib.hid (Z2.out.later hb)
                clear hb x0 x1 x2 x3 x4 x5 x6 x7 x8 x9 x10 x11 x12 x13
                obtain ⟨x0, x1, x2, x3, x4, x5, x6, x7, x8, x9, x10, x11, x12, x13⟩ := Z3.out.c14
                go_wp2_with fail
                refine Calls.mono (C9.out _ B3.out) ?_
                rintro x w4 ⟨rfl, hb⟩
                have B4 := Lib.hid (B3.out.trans (hb.mono B3.out.size))
                have Z4 := Lib.hid (Z3.out.later hb)
                clear hb x0 x1 x2 x3 x4 x5 x6 x7 x8 x9 x10 x11 x12 x13
                obtain ⟨x0, x1, x2, x3, x4, x5, x6, x7, x8, x9, x10, x11, x12, x13⟩ := Z4.out.c14
                rw [← HKK.out] at x0
                by_cases g1 : K = 1
                · subst g1
                  cases b1
                  · cases r5
                    · have HF := Lib.hid (show res = false by rw [HR.out, HP.out]; simp)
                      go_wp2_with fail
                      go_ret
                      exact ⟨by rw [HF.out]; first | rfl | simp, B4.out⟩
                    · have HF := Lib.hid (show res = e8 by rw [HR.out, HP.out]; simp)
                      go_wp2_with fail
                      go_ret
                      exact ⟨by rw [HF.out]; first | rfl | simp, B4.out⟩
                  · cases b2
                    · cases r5
                      · have HF := Lib.hid (show res = false by rw [HR.out, HP.out]; simp)
                        go_wp2_with fail
                        go_ret
                        exact ⟨by rw [HF.out]; first | rfl | simp, B4.out⟩
                      · have HF := Lib.hid (show res = e8 by rw [HR.out, HP.out]; simp)
                        go_wp2_with fail
                        go_ret
                        exact ⟨by rw [HF.out]; first | rfl | simp, B4.out⟩
                    · cases b3
                      · cases r5
                        · have HF := Lib.hid (show res = false by rw [HR.out, HP.out]; simp)
                          go_wp2_with fail
                          go_ret
                          exact ⟨by rw [HF.out]; first | rfl | simp, B4.out⟩
                        · have HF := Lib.hid (show res = e8 by rw [HR.out, HP.out]; simp)
                          go_wp2_with fail
                          go_ret
                          exact ⟨by rw [HF.out]; first | rfl | simp, B4.out⟩
                      · cases r5
                        · have HF := Lib.hid (show res = false by rw [HR.out, HP.out]; simp)
                          go_wp2_with fail
                          go_ret
                          exact ⟨by rw [HF.out]; first | rfl | simp, B4.out⟩
                        · have HF := Lib.hid (show res = e8 by rw [HR.out, HP.out]; simp)
                          go_wp2_with fail
                          go_ret
                          exact ⟨by rw [HF.out]; first | rfl | simp, B4.out⟩
                · have k1 : (K == 1) = false := by rw [beq_eq_false_iff_ne]; exact g1
                  by_cases g2 : K = 2
                  · subst g2
                    cases b1
                    · have HF := Lib.hid (show res = false by rw [HR.out, HP.out]; simp)
                      go_wp2_with fail
                      go_ret
                      exact ⟨by rw [HF.out]; first | rfl | simp, B4.out⟩
                    · cases b2
                      · have HF := Lib.hid (show res = false by rw [HR.out, HP.out]; simp)
                        go_wp2_with fail
                        go_ret
                        exact ⟨by rw [HF.out]; first | rfl | simp, B4.out⟩
                      · cases b3
                        · have HF := Lib.hid (show res = false by rw [HR.out, HP.out]; simp)
                          go_wp2_with fail
                          go_ret
                          exact ⟨by rw [HF.out]; first | rfl | simp, B4.out⟩
                        · have HF := Lib.hid (show res = e8 by rw [HR.out, HP.out]; simp)
                          go_wp2_with fail
                          go_ret
                          exact ⟨by rw [HF.out]; first | rfl | simp, B4.out⟩
                  · have k2 : (K == 2) = false := by rw [beq_eq_false_iff_ne]; exact g2
                    by_cases g3 : K = 3
                    · subst g3
                      cases b1
                      · have HF := Lib.hid (show res = false by rw [HR.out, HP.out]; simp)
                        go_wp2_with fail
                        go_ret
                        exact ⟨by rw [HF.out]; first | rfl | simp, B4.out⟩
                      · cases b2
                        · have HF := Lib.hid (show res = false by rw [HR.out, HP.out]; simp)
                          go_wp2_with fail
                          go_ret
                          exact ⟨by rw [HF.out]; first | rfl | simp, B4.out⟩
                        · cases b3
                          · have HF := Lib.hid (show res = false by rw [HR.out, HP.out]; simp)
                            go_wp2_with fail
                            go_ret
                            exact ⟨by rw [HF.out]; first | rfl | simp, B4.out⟩
                          · cases s0
                            · have HF := Lib.hid (show res = false by rw [HR.out, HP.out]; simp)
                              go_wp2_with fail
                              go_ret
                              exact ⟨by rw [HF.out]; first | rfl | simp, B4.out⟩
                            · cases v0
                              · have HF := Lib.hid (show res = false by rw [HR.out, HP.out]; simp)
                                go_wp2_with fail
                                go_ret
                                exact ⟨by rw [HF.out]; first | rfl | simp, B4.out⟩
                              · have HF := Lib.hid (show res = e9 by rw [HR.out, HP.out]; simp)
                                go_wp2_with fail
                                go_ret
                                exact ⟨by rw [HF.out]; first | rfl | simp, B4.out⟩
                    · have k3 : (K == 3) = false := by rw [beq_eq_false_iff_ne]; exact g3
                      by_cases g4 : K = 4
                      · subst g4
                        cases b1
                        · have HF := Lib.hid (show res = false by rw [HR.out, HP.out]; simp)
                          go_wp2_with fail
                          go_ret
                          exact ⟨by rw [HF.out]; first | rfl | simp, B4.out⟩
                        · cases b2
                          · have HF := Lib.hid (show res = false by rw [HR.out, HP.out]; simp)
                            go_wp2_with fail
                            go_ret
                            exact ⟨by rw [HF.out]; first | rfl | simp, B4.out⟩
                          · cases b3
                            · have HF := Lib.hid (show res = false by rw [HR.out, HP.out]; simp)
                              go_wp2_with fail
                              go_ret
                              exact ⟨by rw [HF.out]; first | rfl | simp, B4.out⟩
                            · cases v0
                              · have HF := Lib.hid (show res = false by rw [HR.out, HP.out]; simp)
                                go_wp2_with fail
                                go_ret
                                exact ⟨by rw [HF.out]; first | rfl | simp, B4.out⟩
                              · have HF := Lib.hid (show res = e9 by rw [HR.out, HP.out]; simp)
                                go_wp2_with fail
                                go_ret
                                exact ⟨by rw [HF.out]; first | rfl | simp, B4.out⟩
                      · have k4 : (K == 4) = false := by rw [beq_eq_false_iff_ne]; exact g4
                        cases b1
                        · have HF := Lib.hid (show res = false by rw [HR.out, HP.out]; simp [g1, g2, g3, g4])
                          go_wp2_with fail
                          go_ret
                          exact ⟨by rw [HF.out]; first | rfl | simp, B4.out⟩
                        · cases b2
                          · have HF := Lib.hid (show res = false by rw [HR.out, HP.out]; simp [g1, g2, g3, g4])
                            go_wp2_with fail
                            go_ret
                            exact ⟨by rw [HF.out]; first | rfl | simp, B4.out⟩
                          · cases b3
                            · have HF := Lib.hid (show res = false by rw [HR.out, HP.out]; simp [g1, g2, g3, g4])
                              go_wp2_with fail
                              go_ret
                              exact ⟨by rw [HF.out]; first | rfl | simp, B4.out⟩
                            · have HF := Lib.hid (show res = false by rw [HR.out, HP.out]; simp [g1, g2, g3, g4])
                              go_wp2_with fail
                              go_ret
                              exact ⟨by rw [HF.out]; first | rfl | simp, B4.out⟩
end Go.Proofs.Ytndgbdbjmogioaa.Wi
