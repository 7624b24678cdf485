/-
  Contracts: are two events, two messages the same (sameEvent and Same of package wire)? Memory that was there is left as it was.
-/
import Derived.Test.YtndgbdbjmogioaaWiEq
namespace Go.Proofs.Ytndgbdbjmogioaa.Wi
open Go.RowKit Go.Proofs.Ytndgbdbjmogioaa.Fl
set_option linter.unusedVariables false
set_option linter.unusedSimpArgs false

def evS (e f : Ev) : Bool := e.pub == f.pub && ((e.seq : Nat) : Int) == ((f.seq : Nat) : Int) && (e.x == f.x && e.y == f.y) && attsEq e.attrs f.attrs
def recS (m n : Msg) : Bool := m.x1 == n.x1 && m.y1 == n.y1 && m.x2 == n.x2 && m.y2 == n.y2
def msgS (m n : Msg) : Bool := m.kind == n.kind && m.sub == n.sub && m.ver == n.ver && m.home == n.home && recS m n && m.flt == n.flt && evS m.ev n.ev
theorem eql_pt (a b c d : Int) (w : World) : (binOp .eql 26 (.agg #[.int .i64 a, .int .i64 b]) (.agg #[.int .i64 c, .int .i64 d])).run Try.prog w = .ok (.bool (a == c && b == d)) w := by
  simp [go_sem]
  by_cases h1 : a = c <;> by_cases h2 : b = d <;> simp [h1, h2]
theorem eql_rect (a b c d a' b' c' d' : Int) (w : World) : (binOp .eql 23 (.agg #[.int .i64 a, .int .i64 b, .int .i64 c, .int .i64 d]) (.agg #[.int .i64 a', .int .i64 b', .int .i64 c', .int .i64 d'])).run Try.prog w = .ok (.bool (a == a' && b == b' && c == c' && d == d')) w := by
  simp [go_sem]
  by_cases h1 : a = a' <;> by_cases h2 : b = b' <;> by_cases h3 : c = c' <;> by_cases h4 : d = d' <;> simp [h1, h2, h3, h4]
set_option maxHeartbeats 2000000
set_option maxRecDepth 100000
theorem sameEvent_any (e f : Ev) (a b : Option Addr) (c d : Nat) (w : World) (hA : AttsAt w (Old w.heap.size) a e.attrs) (hB : AttsAt w (Old w.heap.size) b f.attrs) :
    Calls Try.prog 25 #[.agg #[.int .i64 e.pub, .int .u32 (e.seq : Nat), .int .i64 e.x, .int .i64 e.y, .slice a e.attrs.length c], .agg #[.int .i64 f.pub, .int .u32 (f.seq : Nat), .int .i64 f.x, .int .i64 f.y, .slice b f.attrs.length d]] w fun x w' => x = .returned (.bool (evS e f)) ∧ Below w.heap.size w w' := by
  obtain ⟨w1, hw1⟩ : ∃ W0 : World, W0 = (w.alloc (.cells #[.int .i64 e.pub, .int .u32 (e.seq : Nat), .int .i64 e.x, .int .i64 e.y, .slice a e.attrs.length c] 29)).alloc (.cells #[.int .i64 f.pub, .int .u32 (f.seq : Nat), .int .i64 f.x, .int .i64 f.y, .slice b f.attrs.length d] 29) := ⟨_, rfl⟩
  have B1 := Lib.hid (show Below w.heap.size w w1 by rw [hw1]; exact (below_alloc _ _).alloc (by simp) _)
  have C := Lib.hid (equal_any e.attrs f.attrs a b c d w1 (hA.far fun g hg => ⟨Nat.lt_of_lt_of_le hg B1.out.size, B1.out.block g hg⟩) (hB.far fun g hg => ⟨Nat.lt_of_lt_of_le hg B1.out.size, B1.out.block g hg⟩))
  have HW := Lib.hid hw1
  obtain ⟨t1, ht1⟩ : ∃ b : Bool, (e.pub == f.pub) = b := ⟨_, rfl⟩
  obtain ⟨t2, ht2⟩ : ∃ b : Bool, (((e.seq : Nat) : Int) == ((f.seq : Nat) : Int)) = b := ⟨_, rfl⟩
  obtain ⟨t3, ht3⟩ : ∃ b : Bool, (e.x == f.x && e.y == f.y) = b := ⟨_, rfl⟩
  obtain ⟨rr, hrr⟩ : ∃ b : Bool, (attsEq e.attrs f.attrs) = b := ⟨_, rfl⟩
  have q3 := eql_pt e.x e.y f.x f.y
  have HRES := Lib.hid (show evS e f = (t1 && t2 && t3 && rr) by unfold evS; rw [ht1, ht2, ht3, hrr])
  rw [hrr] at C
  rw [ht3] at q3
  clear ht3 hrr
  obtain ⟨res, hres⟩ : ∃ x, x = evS e f := ⟨_, rfl⟩
  have HR := Lib.hid hres
  rw [← hres]
  clear hw1 hA hB hres
  cases t1
  · have HF := Lib.hid (show res = false by rw [HR.out, HRES.out]; rfl)
    go_enter Try.func25, Try.ntmps25
    go_wp2_with fail
    go_ret
    rw [← HW.out]
    exact ⟨by rw [HF.out]; rfl, B1.out⟩
  · cases t2
    · have HF := Lib.hid (show res = false by rw [HR.out, HRES.out]; rfl)
      go_enter Try.func25, Try.ntmps25
      go_wp2_with fail
      go_ret
      rw [← HW.out]
      exact ⟨by rw [HF.out]; rfl, B1.out⟩
    · cases t3
      · have HF := Lib.hid (show res = false by rw [HR.out, HRES.out]; rfl)
        go_enter Try.func25, Try.ntmps25
        go_wp2_with fail
        go_ret
        rw [← HW.out]
        exact ⟨by rw [HF.out]; rfl, B1.out⟩
      · have HF := Lib.hid (show res = rr by rw [HR.out, HRES.out]; rfl)
        go_enter Try.func25, Try.ntmps25
        go_wp2_with fail
        rw [← HW.out]
        refine Calls.mono C.out ?_
        rintro x w2 ⟨rfl, hb⟩
        have B2 := Lib.hid (B1.out.trans (hb.mono B1.out.size))
        clear hb
        go_wp2_with fail
        go_ret
        exact ⟨by rw [HF.out]; rfl, B2.out⟩
theorem same_any (m n : Msg) (sf sg : ByteArray) (hsf : sf.data.toList = m.flt) (hsg : sg.data.toList = n.flt) (a b : Option Addr) (c d : Nat) (w : World) (hA : AttsAt w (Old w.heap.size) a m.ev.attrs) (hB : AttsAt w (Old w.heap.size) b n.ev.attrs) :
    Calls Try.prog 11 #[.agg #[.int .i64 m.kind, .int .i64 m.sub, .int .i64 m.ver, .int .i64 m.home, .int .i64 m.x1, .int .i64 m.y1, .int .i64 m.x2, .int .i64 m.y2, .string sf, .int .i64 m.ev.pub, .int .u32 (m.ev.seq : Nat), .int .i64 m.ev.x, .int .i64 m.ev.y, .slice a m.ev.attrs.length c], .agg #[.int .i64 n.kind, .int .i64 n.sub, .int .i64 n.ver, .int .i64 n.home, .int .i64 n.x1, .int .i64 n.y1, .int .i64 n.x2, .int .i64 n.y2, .string sg, .int .i64 n.ev.pub, .int .u32 (n.ev.seq : Nat), .int .i64 n.ev.x, .int .i64 n.ev.y, .slice b n.ev.attrs.length d]] w fun x w' => x = .returned (.bool (msgS m n)) ∧ Below w.heap.size w w' := by
  obtain ⟨w1, hw1⟩ : ∃ W0 : World, W0 = (w.alloc (.cells #[.int .i64 m.kind, .int .i64 m.sub, .int .i64 m.ver, .int .i64 m.home, .int .i64 m.x1, .int .i64 m.y1, .int .i64 m.x2, .int .i64 m.y2, .string sf, .int .i64 m.ev.pub, .int .u32 (m.ev.seq : Nat), .int .i64 m.ev.x, .int .i64 m.ev.y, .slice a m.ev.attrs.length c] 31)).alloc (.cells #[.int .i64 n.kind, .int .i64 n.sub, .int .i64 n.ver, .int .i64 n.home, .int .i64 n.x1, .int .i64 n.y1, .int .i64 n.x2, .int .i64 n.y2, .string sg, .int .i64 n.ev.pub, .int .u32 (n.ev.seq : Nat), .int .i64 n.ev.x, .int .i64 n.ev.y, .slice b n.ev.attrs.length d] 31) := ⟨_, rfl⟩
  have B1 := Lib.hid (show Below w.heap.size w w1 by rw [hw1]; exact (below_alloc _ _).alloc (by simp) _)
  have C := Lib.hid (sameEvent_any m.ev n.ev a b c d w1 (hA.far fun g hg => ⟨Nat.lt_of_lt_of_le hg B1.out.size, B1.out.block g hg⟩) (hB.far fun g hg => ⟨Nat.lt_of_lt_of_le hg B1.out.size, B1.out.block g hg⟩))
  have HW := Lib.hid hw1
  obtain ⟨t1, ht1⟩ : ∃ b : Bool, (m.kind == n.kind) = b := ⟨_, rfl⟩
  obtain ⟨t2, ht2⟩ : ∃ b : Bool, (m.sub == n.sub) = b := ⟨_, rfl⟩
  obtain ⟨t3, ht3⟩ : ∃ b : Bool, (m.ver == n.ver) = b := ⟨_, rfl⟩
  obtain ⟨t4, ht4⟩ : ∃ b : Bool, (m.home == n.home) = b := ⟨_, rfl⟩
  obtain ⟨t5, ht5⟩ : ∃ b : Bool, (m.x1 == n.x1 && m.y1 == n.y1 && m.x2 == n.x2 && m.y2 == n.y2) = b := ⟨_, rfl⟩
  obtain ⟨t6, ht6⟩ : ∃ b : Bool, (sf.toList == sg.toList) = b := ⟨_, rfl⟩
  obtain ⟨rr, hrr⟩ : ∃ b : Bool, (evS m.ev n.ev) = b := ⟨_, rfl⟩
  have q5 := eql_rect m.x1 m.y1 m.x2 m.y2 n.x1 n.y1 n.x2 n.y2
  have HRES := Lib.hid (show msgS m n = (t1 && t2 && t3 && t4 && t5 && t6 && rr) by
    unfold msgS recS
    rw [Lib.toList_data, Lib.toList_data, hsf, hsg] at ht6
    rw [ht1, ht2, ht3, ht4, ht5, ht6, hrr])
  rw [hrr] at C
  rw [ht5] at q5
  clear ht5 hrr hsf hsg
  obtain ⟨res, hres⟩ : ∃ x, x = msgS m n := ⟨_, rfl⟩
  have HR := Lib.hid hres
  rw [← hres]
  clear hw1 hA hB hres
  cases t1
  · have HF := Lib.hid (show res = false by rw [HR.out, HRES.out]; rfl)
    go_enter Try.func11, Try.ntmps11
    go_wp2_with fail
    go_ret
    rw [← HW.out]
    exact ⟨by rw [HF.out]; rfl, B1.out⟩
  · cases t2
    · have HF := Lib.hid (show res = false by rw [HR.out, HRES.out]; rfl)
      go_enter Try.func11, Try.ntmps11
      go_wp2_with fail
      go_ret
      rw [← HW.out]
      exact ⟨by rw [HF.out]; rfl, B1.out⟩
    · cases t3
      · have HF := Lib.hid (show res = false by rw [HR.out, HRES.out]; rfl)
        go_enter Try.func11, Try.ntmps11
        go_wp2_with fail
        go_ret
        rw [← HW.out]
        exact ⟨by rw [HF.out]; rfl, B1.out⟩
      · cases t4
        · have HF := Lib.hid (show res = false by rw [HR.out, HRES.out]; rfl)
          go_enter Try.func11, Try.ntmps11
          go_wp2_with fail
          go_ret
          rw [← HW.out]
          exact ⟨by rw [HF.out]; rfl, B1.out⟩
        · cases t5
          · have HF := Lib.hid (show res = false by rw [HR.out, HRES.out]; rfl)
            go_enter Try.func11, Try.ntmps11
            go_wp2_with fail
            go_ret
            rw [← HW.out]
            exact ⟨by rw [HF.out]; rfl, B1.out⟩
          · cases t6
            · have HF := Lib.hid (show res = false by rw [HR.out, HRES.out]; rfl)
              go_enter Try.func11, Try.ntmps11
              go_wp2_with fail
              go_ret
              rw [← HW.out]
              exact ⟨by rw [HF.out]; rfl, B1.out⟩
            · have HF := Lib.hid (show res = rr by rw [HR.out, HRES.out]; rfl)
              go_enter Try.func11, Try.ntmps11
              go_wp2_with fail
              rw [← HW.out]
              refine Calls.mono C.out ?_
              rintro x w2 ⟨rfl, hb⟩
              have B2 := Lib.hid (B1.out.trans (hb.mono B1.out.size))
              clear hb
              go_wp2_with fail
              go_ret
              exact ⟨by rw [HF.out]; rfl, B2.out⟩
end Go.Proofs.Ytndgbdbjmogioaa.Wi
