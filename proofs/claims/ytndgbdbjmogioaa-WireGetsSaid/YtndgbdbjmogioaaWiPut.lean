/-
  Contract of Put of package wire: a message's bytes, or that it may not be. Memory that was there is left as it was.
-/
import Derived.Test.YtndgbdbjmogioaaWiMay
import Derived.Test.YtndgbdbjmogioaaWiPutM
namespace Go.Proofs.Ytndgbdbjmogioaa.Wi
open Go.RowKit Go.Proofs.Ytndgbdbjmogioaa.Fl
set_option linter.unusedVariables false
set_option linter.unusedSimpArgs false

theorem attF_len (v : Att) (h : attB v = true) (hr : -9223372036854775808 ≤ v.num ∧ v.num ≤ 9223372036854775807) : (attF.put v).length ≤ 440 := by
  obtain ⟨nm, tx, nu, st⟩ := v
  simp only at hr
  simp only [attB, Bool.and_eq_true, decide_eq_true_eq] at h
  have h1 := numL_ten (n := nm.length) (by omega)
  cases tx
  · rw [att_num]
    have h2 := numL_ten (n := 0) (by omega)
    have h3 := numL_ten (zig_lt' hr.1 hr.2)
    simp only [List.length_append]
    omega
  · rw [att_text]
    have h2 := numL_ten (n := 1) (by omega)
    have h3 := numL_ten (n := st.length) (by omega)
    simp only [List.length_append]
    omega
theorem putAll_len : ∀ (l : List Att), l.all attB = true → (∀ v ∈ l, -9223372036854775808 ≤ v.num ∧ v.num ≤ 9223372036854775807) → (putAll attF.put l).length ≤ 440 * l.length
  | [], _, _ => by simp [putAll]
  | v :: l, h, hr => by
    rw [List.all_cons, Bool.and_eq_true] at h
    have h1 := attF_len v h.1 (hr v (by simp))
    have h2 := putAll_len l h.2 (fun u hu => hr u (by simp [hu]))
    simp only [putAll, List.length_append, List.length_cons]
    omega
theorem evF_len (e : Ev) (h : evB e = true) (hr : evR e) : (evF.put e).length ≤ 7100 := by
  rw [ev_put]
  simp only [evB, coordB, Bool.and_eq_true, decide_eq_true_eq] at h
  obtain ⟨⟨⟨⟨h1, h2⟩, h3⟩, h4⟩, h5⟩ := h
  obtain ⟨pn, e1, hpn⟩ := few_nat h1
  have g1 := numL_ten (n := e.pub.toNat) (by omega)
  have g2 := numL_ten (n := e.seq) (by have := hr.1; omega)
  have g3 := numL_ten (zig_lt' (n := e.x) (by omega) (by omega))
  have g4 := numL_ten (zig_lt' (n := e.y) (by omega) (by omega))
  have g5 := numL_ten (n := e.attrs.length) (by omega)
  have g6 := putAll_len e.attrs h5 hr.2
  simp only [List.length_append]
  omega
theorem putM_len (m : Msg) (hm : msgB m = true) (hr : evR m.ev) : (putM m).length ≤ 9000 := by
  obtain ⟨k, s, vr, hm', x1, y1, x2, y2, fl, e⟩ := m
  simp only at hr
  unfold msgB at hm
  simp only [Bool.and_eq_true, decide_eq_true_eq] at hm
  obtain ⟨⟨⟨⟨h1, h2⟩, h3⟩, h4⟩, h⟩ := hm
  obtain ⟨sn, rfl, hsn⟩ := few_nat h1
  obtain ⟨vn, rfl, hvn⟩ := few_nat h2
  obtain ⟨hn, rfl, hhn⟩ := few_nat h3
  have g1 := numL_ten (n := sn) (by omega)
  have g2 := numL_ten (n := vn) (by omega)
  have g3 := numL_ten (n := hn) (by omega)
  have g4 := numL_ten (n := fl.length) (by omega)
  split at h
  · next hk =>
    obtain rfl : k = 1 := hk
    rw [Bool.and_eq_true] at h
    have hc := coord_rng h.1
    have q1 := numL_ten (zig_lt' (hc x1 (by simp)).1 (hc x1 (by simp)).2)
    have q2 := numL_ten (zig_lt' (hc y1 (by simp)).1 (hc y1 (by simp)).2)
    have q3 := numL_ten (zig_lt' (hc x2 (by simp)).1 (hc x2 (by simp)).2)
    have q4 := numL_ten (zig_lt' (hc y2 (by simp)).1 (hc y2 (by simp)).2)
    have q0 := numL_ten (n := 1) (by omega)
    rw [put_1]
    simp only [List.length_append, Int.toNat_natCast]
    omega
  · split at h
    · next hk =>
      obtain rfl : k = 2 := hk
      have q0 := numL_ten (n := 2) (by omega)
      rw [put_2]
      simp only [List.length_append, Int.toNat_natCast]
      omega
    · split at h
      · next hk =>
        obtain rfl : k = 3 := hk
        rw [Bool.and_eq_true] at h
        have q0 := numL_ten (n := 3) (by omega)
        have q1 := evF_len e h.2 hr
        rw [put_3]
        simp only [List.length_append]
        omega
      · split at h
        · next hk =>
          obtain rfl : k = 4 := hk
          rw [Bool.and_eq_true] at h
          have q0 := numL_ten (n := 4) (by omega)
          have q1 := evF_len e h.2 hr
          rw [put_4]
          simp only [List.length_append, Int.toNat_natCast]
          omega
        · cases h
/-- What Put tells. -/
def PutEnd (m : Msg) (w w' : World) (e : Ending) : Prop :=
  Below w.heap.size w w' ∧ ((msgB m = false ∧ e = .returned (.tuple #[.slice none 0 0, .iface 40 (.int .i64 1)])) ∨ (msgB m = true ∧ ∃ v, e = .returned (.tuple #[v, .nilIface]) ∧ OB w' w.heap.size v (putM m)))
set_option maxHeartbeats 4000000
set_option maxRecDepth 100000
theorem put_any (m : Msg) (hr : evR m.ev) (sf : ByteArray) (hf : sf.data.toList = m.flt) (a : Option Addr) (c : Nat) (w : World) (hA : AttsAt w (Old w.heap.size) a m.ev.attrs) :
    Calls Try.prog 9 #[.agg #[.int .i64 m.kind, .int .i64 m.sub, .int .i64 m.ver, .int .i64 m.home, .int .i64 m.x1, .int .i64 m.y1, .int .i64 m.x2, .int .i64 m.y2, .string sf, .int .i64 m.ev.pub, .int .u32 (m.ev.seq : Nat), .int .i64 m.ev.x, .int .i64 m.ev.y, .slice a m.ev.attrs.length c]] w fun x w' => PutEnd m w w' x := by
  obtain ⟨w1, hw1⟩ : ∃ W0 : World, W0 = w.alloc (.cells #[.int .i64 m.kind, .int .i64 m.sub, .int .i64 m.ver, .int .i64 m.home, .int .i64 m.x1, .int .i64 m.y1, .int .i64 m.x2, .int .i64 m.y2, .string sf, .int .i64 m.ev.pub, .int .u32 (m.ev.seq : Nat), .int .i64 m.ev.x, .int .i64 m.ev.y, .slice a m.ev.attrs.length c] 31) := ⟨_, rfl⟩
  have B1 := Lib.hid (show Below w.heap.size w w1 by rw [hw1]; exact below_alloc _ _)
  have Z1 := Lib.hid (show Bx w1 none (.bool false) w.heap.size 31 #[.int .i64 m.kind, .int .i64 m.sub, .int .i64 m.ver, .int .i64 m.home, .int .i64 m.x1, .int .i64 m.y1, .int .i64 m.x2, .int .i64 m.y2, .string sf, .int .i64 m.ev.pub, .int .u32 (m.ev.seq : Nat), .int .i64 m.ev.x, .int .i64 m.ev.y, .slice a m.ev.attrs.length c] by rw [hw1]; exact ⟨heap_alloc_new w _, by simp, by simp [Value.ownBlock]⟩)
  have HW := Lib.hid hw1
  have HA := Lib.hid hA
  have HR := Lib.hid hr
  have HF := Lib.hid hf
  have C1 := Lib.hid (may_any m sf hf a c w1 (hA.far fun g hg => ⟨Nat.lt_of_lt_of_le hg B1.out.size, B1.out.block g hg⟩))
  obtain ⟨t, ht⟩ : ∃ t, msgB m = t := ⟨_, rfl⟩
  have HT := Lib.hid ht
  rw [ht] at C1
  clear hw1 hA hr hf ht
  obtain ⟨x0, x1, x2, x3, x4, x5, x6, x7, x8, x9, x10, x11, x12, x13⟩ := Z1.out.c14
  go_enter Try.func9, Try.ntmps9
  go_wp2_with fail
  rw [← HW.out]
  refine Calls.mono C1.out ?_
  rintro x w2 ⟨rfl, hb⟩
  have B2 := Lib.hid (B1.out.trans (hb.mono B1.out.size))
  have Z2 := Lib.hid (Z1.out.later hb)
  clear hb x0 x1 x2 x3 x4 x5 x6 x7 x8 x9 x10 x11 x12 x13
  obtain ⟨x0, x1, x2, x3, x4, x5, x6, x7, x8, x9, x10, x11, x12, x13⟩ := Z2.out.c14
  cases t
  · go_wp2_with fail
    go_ret2
    exact ⟨B2.out, Or.inl ⟨HT.out, rfl⟩⟩
  · obtain ⟨w3, hw3⟩ : ∃ W0 : World, W0 = w2.alloc (.cells #[.slice none 0 0] 55) := ⟨_, rfl⟩
    have B3 := Lib.hid (show Below w2.heap.size w2 w3 by rw [hw3]; exact below_alloc _ _)
    have Z3 := Lib.hid (Z2.out.later B3.out)
    have W3 := Lib.hid (show WrAt w3 w2.heap.size (.slice none 0 0) [] by rw [hw3]; exact ⟨heap_alloc_new w2 _, OB.nil _ _⟩)
    have BB := Lib.hid (B2.out.trans (B3.out.mono B2.out.size))
    have HW3 := Lib.hid hw3
    have HZ2 := Lib.hid B2.out.size
    have hlt2 : w.heap.size < w2.heap.size := Z2.out.lt
    have hne2 : ¬ w2.heap.size = w.heap.size := by omega
    have hne3 : ¬ w.heap.size = w2.heap.size := by omega
    clear hw3
    go_wp2_with fail
    rw [← HW3.out]
    refine Calls.mono (message_any w2.heap.size w.heap.size m HT.out HR.out sf HF.out a c (.slice none 0 0) [] w3 HZ2.out (HA.out.later BB.out) W3.out (by have := putM_len m HT.out HR.out; rw [List.nil_append]; omega)) ?_
    rintro x w4 ⟨rfl, v4, hw4, hs4⟩
    have W4 := Lib.hid hw4
    have B4 := Lib.hid (BB.out.trans (hs4.old (z := w.heap.size) BB.out.size (fun k hk => by cases hk; exact HZ2.out) (fun k hk => by simp [Value.ownBlock] at hk)))
    clear hw4 hs4 x0 x1 x2 x3 x4 x5 x6 x7 x8 x9 x10 x11 x12 x13
    obtain ⟨c0, f0⟩ := W4.out.cell
    go_wp2_with fail
    go_ret2
    exact ⟨B4.out, Or.inr ⟨HT.out, v4, rfl, by have := W4.out.2; rw [List.nil_append] at this; exact this.mono (by have := HZ2.out; omega)⟩⟩
end Go.Proofs.Ytndgbdbjmogioaa.Wi
