/-
  Contracts: are two events, two messages the same (Events and Same of the document's answer)? Memory that was there is left as it was.
-/
import Derived.Test.YtndgbdbjmogioaaWiSame
namespace Go.Proofs.Ytndgbdbjmogioaa.Wi
open Go.RowKit Go.Proofs.Ytndgbdbjmogioaa.Fl
set_option linter.unusedVariables false
set_option linter.unusedSimpArgs false

theorem neq_pt (a b c d : Int) (w : World) : (binOp .neq 26 (.agg #[.int .i64 a, .int .i64 b]) (.agg #[.int .i64 c, .int .i64 d])).run Try.prog w = .ok (.bool (!(a == c && b == d))) w := by
  simp [go_sem]
  by_cases h1 : a = c <;> by_cases h2 : b = d <;> simp [h1, h2]
set_option maxHeartbeats 4000000
set_option maxRecDepth 100000
theorem eventsR_any (e f : Ev) (a b : Option Addr) (c d : Nat) (w : World) (hA : AttsAt w (Old w.heap.size) a e.attrs) (hB : AttsAt w (Old w.heap.size) b f.attrs) :
    Calls Try.prog 26 #[.agg #[.int .i64 e.pub, .int .u32 (e.seq : Nat), .int .i64 e.x, .int .i64 e.y, .slice a e.attrs.length c], .agg #[.int .i64 f.pub, .int .u32 (f.seq : Nat), .int .i64 f.x, .int .i64 f.y, .slice b f.attrs.length d]] w fun x w' => x = .returned (.bool (evS e f)) ∧ Below w.heap.size w w' := by
  obtain ⟨n1, hn1⟩ : ∃ n, n = e.attrs.length := ⟨_, rfl⟩
  obtain ⟨n2, hn2⟩ : ∃ n, n = f.attrs.length := ⟨_, rfl⟩
  have hm : n1 ≤ 9223372036854775807 := by have := hA.1; unfold maxLen at this; omega
  obtain ⟨w1, hw1⟩ : ∃ W0 : World, W0 = (w.alloc (.cells #[.int .i64 e.pub, .int .u32 (e.seq : Nat), .int .i64 e.x, .int .i64 e.y, .slice a n1 c] 29)).alloc (.cells #[.int .i64 f.pub, .int .u32 (f.seq : Nat), .int .i64 f.x, .int .i64 f.y, .slice b n2 d] 29) := ⟨_, rfl⟩
  have B1 := Lib.hid (show Below w.heap.size w w1 by rw [hw1]; exact (below_alloc _ _).alloc (by simp) _)
  have HA := Lib.hid (show AttsAt w1 (Old w1.heap.size) a e.attrs from hA.far fun g hg => ⟨Nat.lt_of_lt_of_le hg B1.out.size, B1.out.block g hg⟩)
  have HB := Lib.hid (show AttsAt w1 (Old w1.heap.size) b f.attrs from hB.far fun g hg => ⟨Nat.lt_of_lt_of_le hg B1.out.size, B1.out.block g hg⟩)
  have X1 := Lib.hid (show Bx w1 none (.bool false) w.heap.size 29 #[.int .i64 e.pub, .int .u32 (e.seq : Nat), .int .i64 e.x, .int .i64 e.y, .slice a n1 c] by rw [hw1]; exact ⟨(Below.heap_alloc _ _ _ (by simp)).trans (heap_alloc_new w _), by simp, by simp [Value.ownBlock]⟩)
  have Y1 := Lib.hid (show Bx w1 none (.bool false) (w.heap.size + 1) 29 #[.int .i64 f.pub, .int .u32 (f.seq : Nat), .int .i64 f.x, .int .i64 f.y, .slice b n2 d] by rw [hw1, show w.heap.size + 1 = (w.alloc (.cells #[.int .i64 e.pub, .int .u32 (e.seq : Nat), .int .i64 e.x, .int .i64 e.y, .slice a n1 c] 29)).heap.size by simp]; exact ⟨heap_alloc_new _ _, by simp, by simp [Value.ownBlock]⟩)
  have HW := Lib.hid hw1
  have HN1 := Lib.hid hn1
  have HN2 := Lib.hid hn2
  rw [← hn1, ← hn2]
  obtain ⟨t1, ht1⟩ : ∃ b : Bool, (e.pub == f.pub) = b := ⟨_, rfl⟩
  obtain ⟨t2, ht2⟩ : ∃ b : Bool, (((e.seq : Nat) : Int) == ((f.seq : Nat) : Int)) = b := ⟨_, rfl⟩
  obtain ⟨t3, ht3⟩ : ∃ b : Bool, (e.x == f.x && e.y == f.y) = b := ⟨_, rfl⟩
  obtain ⟨rr, hrr⟩ : ∃ b : Bool, (attsEq e.attrs f.attrs) = b := ⟨_, rfl⟩
  have q1 : (e.pub != f.pub) = !t1 := by rw [← ht1]; rfl
  have q2 : (((e.seq : Nat) : Int) != ((f.seq : Nat) : Int)) = !t2 := by rw [← ht2]; rfl
  have q3 := neq_pt e.x e.y f.x f.y
  have HRES := Lib.hid (show evS e f = (t1 && t2 && t3 && rr) by unfold evS; rw [ht1, ht2, ht3, hrr])
  have HRR := Lib.hid hrr
  rw [ht3] at q3
  obtain ⟨res, hres⟩ : ∃ x, x = evS e f := ⟨_, rfl⟩
  have HR := Lib.hid hres
  rw [← hres]
  clear ht3 hrr hw1 hA hB hres hn1 hn2
  cases t1
  · have HF := Lib.hid (show res = false by rw [HR.out, HRES.out]; rfl)
    go_enter Try.func26, Try.ntmps26
    go_wp2_with fail
    go_ret
    rw [← HW.out]
    exact ⟨by rw [HF.out]; rfl, B1.out⟩
  · cases t2
    · have HF := Lib.hid (show res = false by rw [HR.out, HRES.out]; rfl)
      go_enter Try.func26, Try.ntmps26
      go_wp2_with fail
      go_ret
      rw [← HW.out]
      exact ⟨by rw [HF.out]; rfl, B1.out⟩
    · cases t3
      · have HF := Lib.hid (show res = false by rw [HR.out, HRES.out]; rfl)
        go_enter Try.func26, Try.ntmps26
        go_wp2_with fail
        go_ret
        rw [← HW.out]
        exact ⟨by rw [HF.out]; rfl, B1.out⟩
      · have HE := Lib.hid (show res = rr by rw [HR.out, HRES.out]; rfl)
        by_cases hl : n1 = n2
        · subst hl
          have hnn : ((n1 : Int) != (n1 : Int)) = false := by simp
          obtain ⟨x0, x1, x2, x3, x4⟩ := X1.out.c5
          obtain ⟨y0, y1, y2, y3, y4⟩ := Y1.out.c5
          go_enter Try.func26, Try.ntmps26
          go_wp2_with fail
          rw [← HW.out]
          clear q1 q2 q3 ht1 ht2
          go_loopw [5] (fun vi wr => EqR attEq e.attrs f.attrs w1 vi wr) (fun vi _ => n1 - (intOf vi).toNat)
          case atStart => exact ⟨0, Nat.zero_le _, rfl, Lib.hid (fun i u v h => absurd h (Nat.not_lt_zero _)), Below.refl _ _⟩
          case round =>
            obtain ⟨k, hk, rfl, hall, hBB⟩ := hrel
            have HK := Lib.hid hk
            have HBB := Lib.hid hBB
            have XR := Lib.hid (X1.out.later hBB)
            have YR := Lib.hid (Y1.out.later hBB)
            clear hk hBB x0 x1 x2 x3 x4 y0 y1 y2 y3 y4
            obtain ⟨x0, x1, x2, x3, x4⟩ := XR.out.c5
            obtain ⟨y0, y1, y2, y3, y4⟩ := YR.out.c5
            clear x0 x1 x2 x3 y0 y1 y2 y3
            by_cases hlt : k < n1
            · have hlz : (k : Int) < (n1 : Int) := by omega
              have hku : k < e.attrs.length := by rw [← HN1.out]; exact hlt
              have hkv : k < f.attrs.length := by rw [← HN2.out]; exact hlt
              obtain ⟨g, o, hg, _, hc⟩ := (HA.out.later HBB.out).2.2 (by omega)
              obtain ⟨g2, o2, hg2, _, hc2⟩ := (HB.out.later HBB.out).2.2 (by omega)
              obtain ⟨c0, c1, c2, c3⟩ := hc k hku
              obtain ⟨d0, d1, d2, d3⟩ := hc2 k hkv
              obtain ⟨U, hU⟩ : ∃ V, V = e.attrs[k] := ⟨_, rfl⟩
              obtain ⟨V, hV⟩ : ∃ V, V = f.attrs[k] := ⟨_, rfl⟩
              rw [← hU] at c0 c1 c2 c3
              rw [← hV] at d0 d1 d2 d3
              obtain ⟨s1, e1, f1⟩ := bs_of' U.name
              obtain ⟨r1, e2, f2⟩ := bs_of' U.str
              obtain ⟨s2, e3, f3⟩ := bs_of' V.name
              obtain ⟨r2, e4, f4⟩ := bs_of' V.str
              have HEQ := att_eq f1 f2 f3 f4
              obtain ⟨u1, ht1⟩ : ∃ x, x = U.text := ⟨_, rfl⟩
              obtain ⟨m1, hn1⟩ : ∃ x, x = U.num := ⟨_, rfl⟩
              obtain ⟨u2, ht2⟩ : ∃ x, x = V.text := ⟨_, rfl⟩
              obtain ⟨m2, hn2⟩ : ∃ x, x = V.num := ⟨_, rfl⟩
              rw [e1] at c0
              rw [← ht1] at c1 HEQ
              rw [← hn1] at c2 HEQ
              rw [e2] at c3
              rw [e3] at d0
              rw [← ht2] at d1 HEQ
              rw [← hn2] at d2 HEQ
              rw [e4] at d3
              have q := neq_att s1 u1 m1 r1 s2 u2 m2 r2
              obtain ⟨eq, heq⟩ : ∃ x, x = (s1.toList == s2.toList && u1 == u2 && m1 == m2 && r1.toList == r2.toList) := ⟨_, rfl⟩
              rw [← heq] at q HEQ
              have HEE := Lib.hid HEQ
              have HUK := Lib.hid (show e.attrs[k]? = some U by rw [hU]; exact List.getElem?_eq_getElem hku)
              have HVK := Lib.hid (show f.attrs[k]? = some V by rw [hV]; exact List.getElem?_eq_getElem hkv)
              subst hg
              subst hg2
              clear hc hc2 hU hV e1 e2 e3 e4 f1 f2 f3 f4 HEQ ht1 hn1 ht2 hn2 heq
              cases eq
              · have HF := Lib.hid (show res = false by rw [HE.out, ← HRR.out]; exact eqL_no HUK.out HVK.out HEE.out.symm)
                go_wp2_with fail
                go_region
                all_goals
                  go_wp2_with fail
                  go_ret
                  exact ⟨by rw [HF.out]; rfl, (B1.out.trans (HBB.out.mono B1.out.size)).drew⟩
              · have HF := Lib.hid (eqL_more hall.out HUK.out HVK.out HEE.out.symm)
                go_wp2_with fail
                go_region
                all_goals
                  go_wp2_with fail
                  go_roundw
                  case rel => exact ⟨k + 1, by omega, by go_num, HF, HBB.out.drew⟩
                  case measure => simp [intOf]; omega
            · have hlz : ¬ (k : Int) < (n1 : Int) := by omega
              have HF := Lib.hid (show res = true by
                rw [HE.out, ← HRR.out]
                exact eqL_yes (HN1.out.symm.trans HN2.out) fun i u v hi => hall.out i u v (by have := HN1.out; omega))
              go_wp2_with fail
              go_ret
              exact ⟨by rw [HF.out]; rfl, B1.out.trans (HBB.out.mono B1.out.size)⟩
        · have hnn : ((n1 : Int) != (n2 : Int)) = true := by rw [bne_iff_ne]; omega
          have hnn2 : ¬ (n1 : Int) = (n2 : Int) := by omega
          have HF := Lib.hid (show res = false by rw [HE.out, ← HRR.out]; exact eqL_len (by rw [← HN1.out, ← HN2.out]; exact hl))
          go_enter Try.func26, Try.ntmps26
          go_wp2_with fail
          go_ret
          rw [← HW.out]
          exact ⟨by rw [HF.out]; rfl, B1.out⟩
theorem sameR_any (m n : Msg) (sf sg : ByteArray) (hsf : sf.data.toList = m.flt) (hsg : sg.data.toList = n.flt) (a b : Option Addr) (c d : Nat) (w : World) (hA : AttsAt w (Old w.heap.size) a m.ev.attrs) (hB : AttsAt w (Old w.heap.size) b n.ev.attrs) :
    Calls Try.prog 12 #[.agg #[.int .i64 m.kind, .int .i64 m.sub, .int .i64 m.ver, .int .i64 m.home, .int .i64 m.x1, .int .i64 m.y1, .int .i64 m.x2, .int .i64 m.y2, .string sf, .int .i64 m.ev.pub, .int .u32 (m.ev.seq : Nat), .int .i64 m.ev.x, .int .i64 m.ev.y, .slice a m.ev.attrs.length c], .agg #[.int .i64 n.kind, .int .i64 n.sub, .int .i64 n.ver, .int .i64 n.home, .int .i64 n.x1, .int .i64 n.y1, .int .i64 n.x2, .int .i64 n.y2, .string sg, .int .i64 n.ev.pub, .int .u32 (n.ev.seq : Nat), .int .i64 n.ev.x, .int .i64 n.ev.y, .slice b n.ev.attrs.length d]] w fun x w' => x = .returned (.bool (msgS m n)) ∧ Below w.heap.size w w' := by
  obtain ⟨w1, hw1⟩ : ∃ W0 : World, W0 = (w.alloc (.cells #[.int .i64 m.kind, .int .i64 m.sub, .int .i64 m.ver, .int .i64 m.home, .int .i64 m.x1, .int .i64 m.y1, .int .i64 m.x2, .int .i64 m.y2, .string sf, .int .i64 m.ev.pub, .int .u32 (m.ev.seq : Nat), .int .i64 m.ev.x, .int .i64 m.ev.y, .slice a m.ev.attrs.length c] 31)).alloc (.cells #[.int .i64 n.kind, .int .i64 n.sub, .int .i64 n.ver, .int .i64 n.home, .int .i64 n.x1, .int .i64 n.y1, .int .i64 n.x2, .int .i64 n.y2, .string sg, .int .i64 n.ev.pub, .int .u32 (n.ev.seq : Nat), .int .i64 n.ev.x, .int .i64 n.ev.y, .slice b n.ev.attrs.length d] 31) := ⟨_, rfl⟩
  have B1 := Lib.hid (show Below w.heap.size w w1 by rw [hw1]; exact (below_alloc _ _).alloc (by simp) _)
  have X1 := Lib.hid (show Bx w1 none (.bool false) w.heap.size 31 #[.int .i64 m.kind, .int .i64 m.sub, .int .i64 m.ver, .int .i64 m.home, .int .i64 m.x1, .int .i64 m.y1, .int .i64 m.x2, .int .i64 m.y2, .string sf, .int .i64 m.ev.pub, .int .u32 (m.ev.seq : Nat), .int .i64 m.ev.x, .int .i64 m.ev.y, .slice a m.ev.attrs.length c] by rw [hw1]; exact ⟨(Below.heap_alloc _ _ _ (by simp)).trans (heap_alloc_new w _), by simp, by simp [Value.ownBlock]⟩)
  have Y1 := Lib.hid (show Bx w1 none (.bool false) (w.heap.size + 1) 31 #[.int .i64 n.kind, .int .i64 n.sub, .int .i64 n.ver, .int .i64 n.home, .int .i64 n.x1, .int .i64 n.y1, .int .i64 n.x2, .int .i64 n.y2, .string sg, .int .i64 n.ev.pub, .int .u32 (n.ev.seq : Nat), .int .i64 n.ev.x, .int .i64 n.ev.y, .slice b n.ev.attrs.length d] by rw [hw1, show w.heap.size + 1 = (w.alloc (.cells #[.int .i64 m.kind, .int .i64 m.sub, .int .i64 m.ver, .int .i64 m.home, .int .i64 m.x1, .int .i64 m.y1, .int .i64 m.x2, .int .i64 m.y2, .string sf, .int .i64 m.ev.pub, .int .u32 (m.ev.seq : Nat), .int .i64 m.ev.x, .int .i64 m.ev.y, .slice a m.ev.attrs.length c] 31)).heap.size by simp]; exact ⟨heap_alloc_new _ _, by simp, by simp [Value.ownBlock]⟩)
  have C := Lib.hid (eventsR_any m.ev n.ev a b c d w1 (hA.far fun g hg => ⟨Nat.lt_of_lt_of_le hg B1.out.size, B1.out.block g hg⟩) (hB.far fun g hg => ⟨Nat.lt_of_lt_of_le hg B1.out.size, B1.out.block g hg⟩))
  have HW := Lib.hid hw1
  obtain ⟨t1, ht1⟩ : ∃ b : Bool, (m.kind == n.kind) = b := ⟨_, rfl⟩
  obtain ⟨t2, ht2⟩ : ∃ b : Bool, (m.sub == n.sub) = b := ⟨_, rfl⟩
  obtain ⟨t3, ht3⟩ : ∃ b : Bool, (m.ver == n.ver) = b := ⟨_, rfl⟩
  obtain ⟨t4, ht4⟩ : ∃ b : Bool, (m.home == n.home) = b := ⟨_, rfl⟩
  obtain ⟨t5, ht5⟩ : ∃ b : Bool, (m.x1 == n.x1 && m.y1 == n.y1 && m.x2 == n.x2 && m.y2 == n.y2) = b := ⟨_, rfl⟩
  obtain ⟨t6, ht6⟩ : ∃ b : Bool, (sf.toList == sg.toList) = b := ⟨_, rfl⟩
  obtain ⟨rr, hrr⟩ : ∃ b : Bool, (evS m.ev n.ev) = b := ⟨_, rfl⟩
  have q5 := eql_rect m.x1 m.y1 m.x2 m.y2 n.x1 n.y1 n.x2 n.y2
  have HRES := Lib.hid (show msgS m n = (t1 && t2 && t3 && t4 && t5 && t6 && rr) by
    unfold msgS recS
    rw [Lib.toList_data, Lib.toList_data, hsf, hsg] at ht6
    rw [ht1, ht2, ht3, ht4, ht5, ht6, hrr])
  rw [hrr] at C
  rw [ht5] at q5
  clear ht5 hrr hsf hsg
  obtain ⟨res, hres⟩ : ∃ x, x = msgS m n := ⟨_, rfl⟩
  have HR := Lib.hid hres
  rw [← hres]
  clear hw1 hA hB hres
  cases t1
  · have HF := Lib.hid (show res = false by rw [HR.out, HRES.out]; rfl)
    go_enter Try.func12, Try.ntmps12
    go_wp2_with fail
    rw [← HW.out]
    refine Calls.mono C.out ?_
    rintro x w2 ⟨rfl, hb⟩
    have B2 := Lib.hid (B1.out.trans (hb.mono B1.out.size))
    obtain ⟨x0, x1, x2, x3, x4, x5, x6, x7, x8, x9, x10, x11, x12, x13⟩ := (X1.out.later hb).c14
    obtain ⟨y0, y1, y2, y3, y4, y5, y6, y7, y8, y9, y10, y11, y12, y13⟩ := (Y1.out.later hb).c14
    clear hb
    go_wp2_with fail
    go_ret
    exact ⟨by rw [HF.out]; rfl, B2.out⟩
  · cases t2
    · have HF := Lib.hid (show res = false by rw [HR.out, HRES.out]; rfl)
      go_enter Try.func12, Try.ntmps12
      go_wp2_with fail
      rw [← HW.out]
      refine Calls.mono C.out ?_
      rintro x w2 ⟨rfl, hb⟩
      have B2 := Lib.hid (B1.out.trans (hb.mono B1.out.size))
      obtain ⟨x0, x1, x2, x3, x4, x5, x6, x7, x8, x9, x10, x11, x12, x13⟩ := (X1.out.later hb).c14
      obtain ⟨y0, y1, y2, y3, y4, y5, y6, y7, y8, y9, y10, y11, y12, y13⟩ := (Y1.out.later hb).c14
      clear hb
      go_wp2_with fail
      go_ret
      exact ⟨by rw [HF.out]; rfl, B2.out⟩
    · cases t3
      · have HF := Lib.hid (show res = false by rw [HR.out, HRES.out]; rfl)
        go_enter Try.func12, Try.ntmps12
        go_wp2_with fail
        rw [← HW.out]
        refine Calls.mono C.out ?_
        rintro x w2 ⟨rfl, hb⟩
        have B2 := Lib.hid (B1.out.trans (hb.mono B1.out.size))
        obtain ⟨x0, x1, x2, x3, x4, x5, x6, x7, x8, x9, x10, x11, x12, x13⟩ := (X1.out.later hb).c14
        obtain ⟨y0, y1, y2, y3, y4, y5, y6, y7, y8, y9, y10, y11, y12, y13⟩ := (Y1.out.later hb).c14
        clear hb
        go_wp2_with fail
        go_ret
        exact ⟨by rw [HF.out]; rfl, B2.out⟩
      · cases t4
        · have HF := Lib.hid (show res = false by rw [HR.out, HRES.out]; rfl)
          go_enter Try.func12, Try.ntmps12
          go_wp2_with fail
          rw [← HW.out]
          refine Calls.mono C.out ?_
          rintro x w2 ⟨rfl, hb⟩
          have B2 := Lib.hid (B1.out.trans (hb.mono B1.out.size))
          obtain ⟨x0, x1, x2, x3, x4, x5, x6, x7, x8, x9, x10, x11, x12, x13⟩ := (X1.out.later hb).c14
          obtain ⟨y0, y1, y2, y3, y4, y5, y6, y7, y8, y9, y10, y11, y12, y13⟩ := (Y1.out.later hb).c14
          clear hb
          go_wp2_with fail
          go_ret
          exact ⟨by rw [HF.out]; rfl, B2.out⟩
        · cases t5
          · have HF := Lib.hid (show res = false by rw [HR.out, HRES.out]; rfl)
            go_enter Try.func12, Try.ntmps12
            go_wp2_with fail
            rw [← HW.out]
            refine Calls.mono C.out ?_
            rintro x w2 ⟨rfl, hb⟩
            have B2 := Lib.hid (B1.out.trans (hb.mono B1.out.size))
            obtain ⟨x0, x1, x2, x3, x4, x5, x6, x7, x8, x9, x10, x11, x12, x13⟩ := (X1.out.later hb).c14
            obtain ⟨y0, y1, y2, y3, y4, y5, y6, y7, y8, y9, y10, y11, y12, y13⟩ := (Y1.out.later hb).c14
            clear hb
            go_wp2_with fail
            go_ret
            exact ⟨by rw [HF.out]; rfl, B2.out⟩
          · cases t6
            · have HF := Lib.hid (show res = false by rw [HR.out, HRES.out]; rfl)
              go_enter Try.func12, Try.ntmps12
              go_wp2_with fail
              rw [← HW.out]
              refine Calls.mono C.out ?_
              rintro x w2 ⟨rfl, hb⟩
              have B2 := Lib.hid (B1.out.trans (hb.mono B1.out.size))
              obtain ⟨x0, x1, x2, x3, x4, x5, x6, x7, x8, x9, x10, x11, x12, x13⟩ := (X1.out.later hb).c14
              obtain ⟨y0, y1, y2, y3, y4, y5, y6, y7, y8, y9, y10, y11, y12, y13⟩ := (Y1.out.later hb).c14
              clear hb
              go_wp2_with fail
              go_ret
              exact ⟨by rw [HF.out]; rfl, B2.out⟩
            · have HF := Lib.hid (show res = rr by rw [HR.out, HRES.out]; rfl)
              go_enter Try.func12, Try.ntmps12
              go_wp2_with fail
              rw [← HW.out]
              refine Calls.mono C.out ?_
              rintro x w2 ⟨rfl, hb⟩
              have B2 := Lib.hid (B1.out.trans (hb.mono B1.out.size))
              obtain ⟨x0, x1, x2, x3, x4, x5, x6, x7, x8, x9, x10, x11, x12, x13⟩ := (X1.out.later hb).c14
              obtain ⟨y0, y1, y2, y3, y4, y5, y6, y7, y8, y9, y10, y11, y12, y13⟩ := (Y1.out.later hb).c14
              clear hb
              go_wp2_with fail
              go_ret
              exact ⟨by rw [HF.out]; rfl, B2.out⟩
end Go.Proofs.Ytndgbdbjmogioaa.Wi
