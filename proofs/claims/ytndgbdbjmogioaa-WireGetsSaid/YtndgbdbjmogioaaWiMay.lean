/-
  Contract of May of package wire: may a message be? Memory that was there is left as it was.
-/
import Derived.Test.YtndgbdbjmogioaaWiJust
import Derived.Test.YtndgbdbjmogioaaWiMayA
import Derived.Test.YtndgbdbjmogioaaRcMidA
namespace Go.Proofs.Ytndgbdbjmogioaa.Wi
open Go.RowKit Go.Proofs.Ytndgbdbjmogioaa.Fl
set_option linter.unusedVariables false
set_option linter.unusedSimpArgs false

set_option maxHeartbeats 4000000
set_option maxRecDepth 100000
theorem may_any (m : Msg) (sf : ByteArray) (hf : sf.data.toList = m.flt) (a : Option Addr) (c : Nat) (w : World) (hA : AttsAt w (Old w.heap.size) a m.ev.attrs) :
    Calls Try.prog 10 #[.agg #[.int .i64 m.kind, .int .i64 m.sub, .int .i64 m.ver, .int .i64 m.home, .int .i64 m.x1, .int .i64 m.y1, .int .i64 m.x2, .int .i64 m.y2, .string sf, .int .i64 m.ev.pub, .int .u32 (m.ev.seq : Nat), .int .i64 m.ev.x, .int .i64 m.ev.y, .slice a m.ev.attrs.length c]] w fun x w' => x = .returned (.bool (msgB m)) ∧ Below w.heap.size w w' := by
  have hsz : sf.size = m.flt.length := by rw [← hf]; simp
  have C1 := Lib.hid (fun W (hW : Below w.heap.size w W) => just_any m sf hf a c W (hA.far fun g hg => ⟨Nat.lt_of_lt_of_le hg hW.size, hW.block g hg⟩))
  have C2 := Lib.hid (fun W => isNum_any m.sub W)
  have C3 := Lib.hid (fun W => isNum_any m.ver W)
  have C4 := Lib.hid (fun W => isNum_any m.home W)
  have C5 := Lib.hid (fun W => Rc.rmay_any m.x1 m.y1 m.x2 m.y2 W)
  have C7 := Lib.hid (fun W (hW : Below w.heap.size w W) => isEvent_any m.ev a c W (hA.far fun g hg => ⟨Nat.lt_of_lt_of_le hg hW.size, hW.block g hg⟩))
  have HM := Lib.hid (may_eq m)
  rw [← hsz] at HM
  obtain ⟨t1, ht1⟩ : ∃ b : Bool, (justB m) = b := ⟨_, rfl⟩
  obtain ⟨t2, ht2⟩ : ∃ b : Bool, (num31 m.sub) = b := ⟨_, rfl⟩
  obtain ⟨t3, ht3⟩ : ∃ b : Bool, (num31 m.ver) = b := ⟨_, rfl⟩
  obtain ⟨t4, ht4⟩ : ∃ b : Bool, (num31 m.home) = b := ⟨_, rfl⟩
  obtain ⟨t5, ht5⟩ : ∃ b : Bool, (Rc.rmayB m.x1 m.y1 m.x2 m.y2) = b := ⟨_, rfl⟩
  obtain ⟨t7, ht7⟩ : ∃ b : Bool, (evB m.ev) = b := ⟨_, rfl⟩
  rw [ht1] at C1 HM
  rw [ht2] at C2 HM
  rw [ht3] at C3 HM
  rw [ht4] at C4 HM
  rw [ht5] at C5 HM
  rw [ht7] at C7 HM
  obtain ⟨w1, hw1⟩ : ∃ W0 : World, W0 = w.alloc (.cells #[.int .i64 m.kind, .int .i64 m.sub, .int .i64 m.ver, .int .i64 m.home, .int .i64 m.x1, .int .i64 m.y1, .int .i64 m.x2, .int .i64 m.y2, .string sf, .int .i64 m.ev.pub, .int .u32 (m.ev.seq : Nat), .int .i64 m.ev.x, .int .i64 m.ev.y, .slice a m.ev.attrs.length c] 31) := ⟨_, rfl⟩
  have B1 := Lib.hid (show Below w.heap.size w w1 by rw [hw1]; exact below_alloc _ _)
  have Z1 := Lib.hid (show Bx w1 none (.bool false) w.heap.size 31 #[.int .i64 m.kind, .int .i64 m.sub, .int .i64 m.ver, .int .i64 m.home, .int .i64 m.x1, .int .i64 m.y1, .int .i64 m.x2, .int .i64 m.y2, .string sf, .int .i64 m.ev.pub, .int .u32 (m.ev.seq : Nat), .int .i64 m.ev.x, .int .i64 m.ev.y, .slice a m.ev.attrs.length c] by rw [hw1]; exact ⟨heap_alloc_new w _, by simp, by simp [Value.ownBlock]⟩)
  have HW := Lib.hid hw1
  obtain ⟨res, hres⟩ : ∃ x, x = msgB m := ⟨_, rfl⟩
  have HR := Lib.hid hres
  rw [← hres]
  clear ht1 ht2 ht3 ht4 ht5 ht7 hw1 hres hA hf hsz
  cases t1
  · have HF := Lib.hid (show res = false by rw [HR.out, ← HM.out]; simp)
    go_enter Try.func10, Try.ntmps10
    go_wp2_with fail
    rw [← HW.out]
    refine Calls.mono (C1.out _ B1.out) ?_
    rintro x w2 ⟨rfl, hb⟩
    have B2 := Lib.hid (B1.out.trans (hb.mono B1.out.size))
    have Z2 := Lib.hid (Z1.out.later hb)
    clear hb 
    obtain ⟨x0, x1, x2, x3, x4, x5, x6, x7, x8, x9, x10, x11, x12, x13⟩ := Z2.out.c14
    go_wp2_with fail
    go_ret
    exact ⟨by rw [HF.out]; first | rfl | simp, B2.out⟩
  · cases t2
    · have HF := Lib.hid (show res = false by rw [HR.out, ← HM.out]; simp)
      go_enter Try.func10, Try.ntmps10
      go_wp2_with fail
      rw [← HW.out]
      refine Calls.mono (C1.out _ B1.out) ?_
      rintro x w2 ⟨rfl, hb⟩
      have B2 := Lib.hid (B1.out.trans (hb.mono B1.out.size))
      have Z2 := Lib.hid (Z1.out.later hb)
      clear hb 
      obtain ⟨x0, x1, x2, x3, x4, x5, x6, x7, x8, x9, x10, x11, x12, x13⟩ := Z2.out.c14
      go_wp2_with fail
      refine (C2.out _).mono ?_
      rintro x wq2 ⟨rfl, rfl⟩
      go_wp2_with fail
      go_ret
      exact ⟨by rw [HF.out]; first | rfl | simp, B2.out⟩
    · cases t3
      · have HF := Lib.hid (show res = false by rw [HR.out, ← HM.out]; simp)
        go_enter Try.func10, Try.ntmps10
        go_wp2_with fail
        rw [← HW.out]
        refine Calls.mono (C1.out _ B1.out) ?_
        rintro x w2 ⟨rfl, hb⟩
        have B2 := Lib.hid (B1.out.trans (hb.mono B1.out.size))
        have Z2 := Lib.hid (Z1.out.later hb)
        clear hb 
        obtain ⟨x0, x1, x2, x3, x4, x5, x6, x7, x8, x9, x10, x11, x12, x13⟩ := Z2.out.c14
        go_wp2_with fail
        refine (C2.out _).mono ?_
        rintro x wq2 ⟨rfl, rfl⟩
        go_wp2_with fail
        refine (C3.out _).mono ?_
        rintro x wq3 ⟨rfl, rfl⟩
        go_wp2_with fail
        go_ret
        exact ⟨by rw [HF.out]; first | rfl | simp, B2.out⟩
      · cases t4
        · have HF := Lib.hid (show res = false by rw [HR.out, ← HM.out]; simp)
          go_enter Try.func10, Try.ntmps10
          go_wp2_with fail
          rw [← HW.out]
          refine Calls.mono (C1.out _ B1.out) ?_
          rintro x w2 ⟨rfl, hb⟩
          have B2 := Lib.hid (B1.out.trans (hb.mono B1.out.size))
          have Z2 := Lib.hid (Z1.out.later hb)
          clear hb 
          obtain ⟨x0, x1, x2, x3, x4, x5, x6, x7, x8, x9, x10, x11, x12, x13⟩ := Z2.out.c14
          go_wp2_with fail
          refine (C2.out _).mono ?_
          rintro x wq2 ⟨rfl, rfl⟩
          go_wp2_with fail
          refine (C3.out _).mono ?_
          rintro x wq3 ⟨rfl, rfl⟩
          go_wp2_with fail
          refine (C4.out _).mono ?_
          rintro x wq4 ⟨rfl, rfl⟩
          go_wp2_with fail
          go_ret
          exact ⟨by rw [HF.out]; first | rfl | simp, B2.out⟩
        · cases t5
          · have HF := Lib.hid (show res = false by rw [HR.out, ← HM.out]; simp)
            go_enter Try.func10, Try.ntmps10
            go_wp2_with fail
            rw [← HW.out]
            refine Calls.mono (C1.out _ B1.out) ?_
            rintro x w2 ⟨rfl, hb⟩
            have B2 := Lib.hid (B1.out.trans (hb.mono B1.out.size))
            have Z2 := Lib.hid (Z1.out.later hb)
            clear hb 
            obtain ⟨x0, x1, x2, x3, x4, x5, x6, x7, x8, x9, x10, x11, x12, x13⟩ := Z2.out.c14
            go_wp2_with fail
            refine (C2.out _).mono ?_
            rintro x wq2 ⟨rfl, rfl⟩
            go_wp2_with fail
            refine (C3.out _).mono ?_
            rintro x wq3 ⟨rfl, rfl⟩
            go_wp2_with fail
            refine (C4.out _).mono ?_
            rintro x wq4 ⟨rfl, rfl⟩
            go_wp2_with fail
            refine Calls.mono (C5.out _) ?_
            rintro x w6 ⟨rfl, hb⟩
            have B6 := Lib.hid (B2.out.trans (hb.mono B2.out.size))
            have Z6 := Lib.hid (Z2.out.later hb)
            clear hb x0 x1 x2 x3 x4 x5 x6 x7 x8 x9 x10 x11 x12 x13
            obtain ⟨x0, x1, x2, x3, x4, x5, x6, x7, x8, x9, x10, x11, x12, x13⟩ := Z6.out.c14
            go_wp2_with fail
            go_ret
            exact ⟨by rw [HF.out]; first | rfl | simp, B6.out⟩
          · by_cases h5 : sf.size ≤ 500
            · have h5z : (sf.size : Int) ≤ 500 := by omega
              have HF := Lib.hid (show res = t7 by rw [HR.out, ← HM.out, decide_eq_true h5]; simp)
              clear h5
              go_enter Try.func10, Try.ntmps10
              go_wp2_with fail
              rw [← HW.out]
              refine Calls.mono (C1.out _ B1.out) ?_
              rintro x w2 ⟨rfl, hb⟩
              have B2 := Lib.hid (B1.out.trans (hb.mono B1.out.size))
              have Z2 := Lib.hid (Z1.out.later hb)
              clear hb 
              obtain ⟨x0, x1, x2, x3, x4, x5, x6, x7, x8, x9, x10, x11, x12, x13⟩ := Z2.out.c14
              go_wp2_with fail
              refine (C2.out _).mono ?_
              rintro x wq2 ⟨rfl, rfl⟩
              go_wp2_with fail
              refine (C3.out _).mono ?_
              rintro x wq3 ⟨rfl, rfl⟩
              go_wp2_with fail
              refine (C4.out _).mono ?_
              rintro x wq4 ⟨rfl, rfl⟩
              go_wp2_with fail
              refine Calls.mono (C5.out _) ?_
              rintro x w6 ⟨rfl, hb⟩
              have B6 := Lib.hid (B2.out.trans (hb.mono B2.out.size))
              have Z6 := Lib.hid (Z2.out.later hb)
              clear hb x0 x1 x2 x3 x4 x5 x6 x7 x8 x9 x10 x11 x12 x13
              obtain ⟨x0, x1, x2, x3, x4, x5, x6, x7, x8, x9, x10, x11, x12, x13⟩ := Z6.out.c14
              go_wp2_with fail
              refine Calls.mono (C7.out _ B6.out) ?_
              rintro x w8 ⟨rfl, hb⟩
              have B8 := Lib.hid (B6.out.trans (hb.mono B6.out.size))
              have Z8 := Lib.hid (Z6.out.later hb)
              clear hb x0 x1 x2 x3 x4 x5 x6 x7 x8 x9 x10 x11 x12 x13
              obtain ⟨x0, x1, x2, x3, x4, x5, x6, x7, x8, x9, x10, x11, x12, x13⟩ := Z8.out.c14
              go_wp2_with fail
              go_ret
              exact ⟨by rw [HF.out]; first | rfl | simp, B8.out⟩
            · have h5z : ¬ (sf.size : Int) ≤ 500 := by omega
              have HF := Lib.hid (show res = false by rw [HR.out, ← HM.out, decide_eq_false h5]; simp)
              clear h5
              go_enter Try.func10, Try.ntmps10
              go_wp2_with fail
              rw [← HW.out]
              refine Calls.mono (C1.out _ B1.out) ?_
              rintro x w2 ⟨rfl, hb⟩
              have B2 := Lib.hid (B1.out.trans (hb.mono B1.out.size))
              have Z2 := Lib.hid (Z1.out.later hb)
              clear hb 
              obtain ⟨x0, x1, x2, x3, x4, x5, x6, x7, x8, x9, x10, x11, x12, x13⟩ := Z2.out.c14
              go_wp2_with fail
              refine (C2.out _).mono ?_
              rintro x wq2 ⟨rfl, rfl⟩
              go_wp2_with fail
              refine (C3.out _).mono ?_
              rintro x wq3 ⟨rfl, rfl⟩
              go_wp2_with fail
              refine (C4.out _).mono ?_
              rintro x wq4 ⟨rfl, rfl⟩
              go_wp2_with fail
              refine Calls.mono (C5.out _) ?_
              rintro x w6 ⟨rfl, hb⟩
              have B6 := Lib.hid (B2.out.trans (hb.mono B2.out.size))
              have Z6 := Lib.hid (Z2.out.later hb)
              clear hb x0 x1 x2 x3 x4 x5 x6 x7 x8 x9 x10 x11 x12 x13
              obtain ⟨x0, x1, x2, x3, x4, x5, x6, x7, x8, x9, x10, x11, x12, x13⟩ := Z6.out.c14
              go_wp2_with fail
              go_ret
              exact ⟨by rw [HF.out]; first | rfl | simp, B6.out⟩
end Go.Proofs.Ytndgbdbjmogioaa.Wi
