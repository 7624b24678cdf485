/-
  Contract of hasJustItsOwn of package wire: has a message just the fields that its kind asks for? Memory that was there is left as it was.
-/
import Derived.Test.YtndgbdbjmogioaaWiMayP
namespace Go.Proofs.Ytndgbdbjmogioaa.Wi
open Go.RowKit Go.Proofs.Ytndgbdbjmogioaa.Fl
set_option linter.unusedVariables false
set_option linter.unusedSimpArgs false

set_option maxHeartbeats 4000000
set_option maxRecDepth 100000
theorem atts_none (W : World) (S : Nat → Prop) (a : Option Addr) : AttsAt W S a [] := ⟨by simp [maxLen], by simp, fun h => by simp at h⟩
theorem just_1 (s v h x1 y1 x2 y2 : Int) (fl : List UInt8) (sf : ByteArray) (hf : sf.data.toList = fl) (e : Ev) (a : Option Addr) (c : Nat) (w : World) (hA : AttsAt w (Old w.heap.size) a e.attrs) :
    Calls Try.prog 21 #[.agg #[.int .i64 1, .int .i64 s, .int .i64 v, .int .i64 h, .int .i64 x1, .int .i64 y1, .int .i64 x2, .int .i64 y2, .string sf, .int .i64 e.pub, .int .u32 (e.seq : Nat), .int .i64 e.x, .int .i64 e.y, .slice a e.attrs.length c]] w fun x w' => x = .returned (.bool (msgS (own1 ⟨1, s, v, h, x1, y1, x2, y2, fl, e⟩) (z_ 1))) ∧ Below w.heap.size w w' := by
  obtain ⟨w1, hw1⟩ : ∃ W0 : World, W0 = w.alloc (.cells #[.int .i64 1, .int .i64 0, .int .i64 0, .int .i64 0, .int .i64 0, .int .i64 0, .int .i64 0, .int .i64 0, .string ⟨#[]⟩, .int .i64 e.pub, .int .u32 (e.seq : Nat), .int .i64 e.x, .int .i64 e.y, .slice a e.attrs.length c] 31) := ⟨_, rfl⟩
  have B1 := Lib.hid (show Below w.heap.size w w1 by rw [hw1]; exact below_alloc _ _)
  have C := same_any (own1 ⟨1, s, v, h, x1, y1, x2, y2, fl, e⟩) (z_ 1) ⟨#[]⟩ ⟨#[]⟩ rfl rfl a none c 0 w1 (hA.far fun g hg => ⟨Nat.lt_of_lt_of_le hg B1.out.size, B1.out.block g hg⟩) (atts_none _ _ _)
  obtain ⟨res, hres⟩ : ∃ x, x = msgS (own1 ⟨1, s, v, h, x1, y1, x2, y2, fl, e⟩) (z_ 1) := ⟨_, rfl⟩
  rw [← hres] at C ⊢
  simp only [own1, z_, List.length_nil] at C
  have HC := Lib.hid C
  have HW := Lib.hid hw1
  clear hw1 C hres hA hf
  go_enter Try.func21, Try.ntmps21
  go_wp2_with fail
  rw [← HW.out]
  refine Calls.mono HC.out ?_
  rintro x w2 ⟨rfl, hb⟩
  have B2 := Lib.hid (B1.out.trans (hb.mono B1.out.size))
  clear hb
  go_wp2_with fail
  go_ret
  exact ⟨rfl, B2.out⟩
theorem just_2 (s v h x1 y1 x2 y2 : Int) (fl : List UInt8) (sf : ByteArray) (hf : sf.data.toList = fl) (e : Ev) (a : Option Addr) (c : Nat) (w : World) (hA : AttsAt w (Old w.heap.size) a e.attrs) :
    Calls Try.prog 21 #[.agg #[.int .i64 2, .int .i64 s, .int .i64 v, .int .i64 h, .int .i64 x1, .int .i64 y1, .int .i64 x2, .int .i64 y2, .string sf, .int .i64 e.pub, .int .u32 (e.seq : Nat), .int .i64 e.x, .int .i64 e.y, .slice a e.attrs.length c]] w fun x w' => x = .returned (.bool (msgS (own2 ⟨2, s, v, h, x1, y1, x2, y2, fl, e⟩) (z_ 2))) ∧ Below w.heap.size w w' := by
  obtain ⟨w1, hw1⟩ : ∃ W0 : World, W0 = w.alloc (.cells #[.int .i64 2, .int .i64 0, .int .i64 0, .int .i64 h, .int .i64 x1, .int .i64 y1, .int .i64 x2, .int .i64 y2, .string sf, .int .i64 e.pub, .int .u32 (e.seq : Nat), .int .i64 e.x, .int .i64 e.y, .slice a e.attrs.length c] 31) := ⟨_, rfl⟩
  have B1 := Lib.hid (show Below w.heap.size w w1 by rw [hw1]; exact below_alloc _ _)
  have C := same_any (own2 ⟨2, s, v, h, x1, y1, x2, y2, fl, e⟩) (z_ 2) sf ⟨#[]⟩ hf rfl a none c 0 w1 (hA.far fun g hg => ⟨Nat.lt_of_lt_of_le hg B1.out.size, B1.out.block g hg⟩) (atts_none _ _ _)
  obtain ⟨res, hres⟩ : ∃ x, x = msgS (own2 ⟨2, s, v, h, x1, y1, x2, y2, fl, e⟩) (z_ 2) := ⟨_, rfl⟩
  rw [← hres] at C ⊢
  simp only [own2, z_, List.length_nil] at C
  have HC := Lib.hid C
  have HW := Lib.hid hw1
  clear hw1 C hres hA hf
  go_enter Try.func21, Try.ntmps21
  go_wp2_with fail
  rw [← HW.out]
  refine Calls.mono HC.out ?_
  rintro x w2 ⟨rfl, hb⟩
  have B2 := Lib.hid (B1.out.trans (hb.mono B1.out.size))
  clear hb
  go_wp2_with fail
  go_ret
  exact ⟨rfl, B2.out⟩
theorem just_3 (s v h x1 y1 x2 y2 : Int) (fl : List UInt8) (sf : ByteArray) (hf : sf.data.toList = fl) (e : Ev) (a : Option Addr) (c : Nat) (w : World) (hA : AttsAt w (Old w.heap.size) a e.attrs) :
    Calls Try.prog 21 #[.agg #[.int .i64 3, .int .i64 s, .int .i64 v, .int .i64 h, .int .i64 x1, .int .i64 y1, .int .i64 x2, .int .i64 y2, .string sf, .int .i64 e.pub, .int .u32 (e.seq : Nat), .int .i64 e.x, .int .i64 e.y, .slice a e.attrs.length c]] w fun x w' => x = .returned (.bool (msgS (own3 ⟨3, s, v, h, x1, y1, x2, y2, fl, e⟩) (z_ 3))) ∧ Below w.heap.size w w' := by
  obtain ⟨w1, hw1⟩ : ∃ W0 : World, W0 = w.alloc (.cells #[.int .i64 3, .int .i64 s, .int .i64 v, .int .i64 h, .int .i64 x1, .int .i64 y1, .int .i64 x2, .int .i64 y2, .string sf, .int .i64 0, .int .u32 0, .int .i64 0, .int .i64 0, .slice none 0 0] 31) := ⟨_, rfl⟩
  have B1 := Lib.hid (show Below w.heap.size w w1 by rw [hw1]; exact below_alloc _ _)
  have C := same_any (own3 ⟨3, s, v, h, x1, y1, x2, y2, fl, e⟩) (z_ 3) sf ⟨#[]⟩ hf rfl none none 0 0 w1 (atts_none _ _ _) (atts_none _ _ _)
  obtain ⟨res, hres⟩ : ∃ x, x = msgS (own3 ⟨3, s, v, h, x1, y1, x2, y2, fl, e⟩) (z_ 3) := ⟨_, rfl⟩
  rw [← hres] at C ⊢
  simp only [own3, z_, List.length_nil] at C
  have HC := Lib.hid C
  have HW := Lib.hid hw1
  clear hw1 C hres hA hf
  go_enter Try.func21, Try.ntmps21
  go_wp2_with fail
  rw [← HW.out]
  refine Calls.mono HC.out ?_
  rintro x w2 ⟨rfl, hb⟩
  have B2 := Lib.hid (B1.out.trans (hb.mono B1.out.size))
  clear hb
  go_wp2_with fail
  go_ret
  exact ⟨rfl, B2.out⟩
theorem just_4 (s v h x1 y1 x2 y2 : Int) (fl : List UInt8) (sf : ByteArray) (hf : sf.data.toList = fl) (e : Ev) (a : Option Addr) (c : Nat) (w : World) (hA : AttsAt w (Old w.heap.size) a e.attrs) :
    Calls Try.prog 21 #[.agg #[.int .i64 4, .int .i64 s, .int .i64 v, .int .i64 h, .int .i64 x1, .int .i64 y1, .int .i64 x2, .int .i64 y2, .string sf, .int .i64 e.pub, .int .u32 (e.seq : Nat), .int .i64 e.x, .int .i64 e.y, .slice a e.attrs.length c]] w fun x w' => x = .returned (.bool (msgS (own4 ⟨4, s, v, h, x1, y1, x2, y2, fl, e⟩) (z_ 4))) ∧ Below w.heap.size w w' := by
  obtain ⟨w1, hw1⟩ : ∃ W0 : World, W0 = w.alloc (.cells #[.int .i64 4, .int .i64 0, .int .i64 v, .int .i64 h, .int .i64 x1, .int .i64 y1, .int .i64 x2, .int .i64 y2, .string sf, .int .i64 0, .int .u32 0, .int .i64 0, .int .i64 0, .slice none 0 0] 31) := ⟨_, rfl⟩
  have B1 := Lib.hid (show Below w.heap.size w w1 by rw [hw1]; exact below_alloc _ _)
  have C := same_any (own4 ⟨4, s, v, h, x1, y1, x2, y2, fl, e⟩) (z_ 4) sf ⟨#[]⟩ hf rfl none none 0 0 w1 (atts_none _ _ _) (atts_none _ _ _)
  obtain ⟨res, hres⟩ : ∃ x, x = msgS (own4 ⟨4, s, v, h, x1, y1, x2, y2, fl, e⟩) (z_ 4) := ⟨_, rfl⟩
  rw [← hres] at C ⊢
  simp only [own4, z_, List.length_nil] at C
  have HC := Lib.hid C
  have HW := Lib.hid hw1
  clear hw1 C hres hA hf
  go_enter Try.func21, Try.ntmps21
  go_wp2_with fail
  rw [← HW.out]
  refine Calls.mono HC.out ?_
  rintro x w2 ⟨rfl, hb⟩
  have B2 := Lib.hid (B1.out.trans (hb.mono B1.out.size))
  clear hb
  go_wp2_with fail
  go_ret
  exact ⟨rfl, B2.out⟩
theorem just_any (m : Msg) (sf : ByteArray) (hf : sf.data.toList = m.flt) (a : Option Addr) (c : Nat) (w : World) (hA : AttsAt w (Old w.heap.size) a m.ev.attrs) :
    Calls Try.prog 21 #[.agg #[.int .i64 m.kind, .int .i64 m.sub, .int .i64 m.ver, .int .i64 m.home, .int .i64 m.x1, .int .i64 m.y1, .int .i64 m.x2, .int .i64 m.y2, .string sf, .int .i64 m.ev.pub, .int .u32 (m.ev.seq : Nat), .int .i64 m.ev.x, .int .i64 m.ev.y, .slice a m.ev.attrs.length c]] w fun x w' => x = .returned (.bool (justB m)) ∧ Below w.heap.size w w' := by
  obtain ⟨k, s, v, h, x1, y1, x2, y2, fl, e⟩ := m
  simp only at hf hA ⊢
  by_cases h1 : k = 1
  · subst h1; exact just_1 s v h x1 y1 x2 y2 fl sf hf e a c w hA
  · by_cases h2 : k = 2
    · subst h2; exact just_2 s v h x1 y1 x2 y2 fl sf hf e a c w hA
    · by_cases h3 : k = 3
      · subst h3; exact just_3 s v h x1 y1 x2 y2 fl sf hf e a c w hA
      · by_cases h4 : k = 4
        · subst h4; exact just_4 s v h x1 y1 x2 y2 fl sf hf e a c w hA
        · rw [show justB ⟨k, s, v, h, x1, y1, x2, y2, fl, e⟩ = false by unfold justB; simp only [if_neg h1, if_neg h2, if_neg h3, if_neg h4]]
          have k1 : (k == 1) = false := by rw [beq_eq_false_iff_ne]; exact h1
          have k2 : (k == 2) = false := by rw [beq_eq_false_iff_ne]; exact h2
          have k3 : (k == 3) = false := by rw [beq_eq_false_iff_ne]; exact h3
          have k4 : (k == 4) = false := by rw [beq_eq_false_iff_ne]; exact h4
          clear h1 h2 h3 h4 hA hf
          go_enter Try.func21, Try.ntmps21
          go_wp2_with fail
          go_ret
          exact ⟨rfl, below_alloc _ _⟩
end Go.Proofs.Ytndgbdbjmogioaa.Wi
