/-
  The law of layer 10 that a message's bytes are the document's holds. Memory that was there is left as it was.
-/
import Derived.Test.YtndgbdbjmogioaaWiUp
import Derived.Test.YtndgbdbjmogioaaWiMayR
import Derived.Test.YtndgbdbjmogioaaWiSameR
import Derived.Test.YtndgbdbjmogioaaWiSmall
import Derived.Test.YtndgbdbjmogioaaWiPutN
namespace Go.Proofs.Ytndgbdbjmogioaa.Wi
open Go.RowKit Go.Proofs.Ytndgbdbjmogioaa.Fl
set_option linter.unusedVariables false
set_option linter.unusedSimpArgs false

theorem eqL_self {α : Type} (q : α → α → Bool) (h : ∀ x, q x x = true) : ∀ l : List α, eqL q l l = true
  | [] => rfl
  | x :: l => by simp [eqL, h x, eqL_self q h l]
theorem attEq_self (v : Att) : attEq v v = true := by simp [attEq]
theorem msgS_self (m : Msg) : msgS m m = true := by simp [msgS, recS, evS, attsEq, eqL_self attEq attEq_self]
theorem str_eq (s : ByteArray) (w : World) : (binOp .eql 9 (.string s) (.string s)).run Try.prog w = .ok (.bool true) w := by
  rw [show (binOp .eql 9 (.string s) (.string s)).run Try.prog w = .ok (.bool (s.toList == s.toList)) w from by kernel_rfl]
  simp
/-- What Put tells, slot by slot. -/
theorem PutEnd.slots {m : Msg} {w w' : World} {e : Ending} (h : PutEnd m w w' e) : ∃ v ev, e = .returned (.tuple #[v, ev]) ∧ Below w.heap.size w w' ∧ (msgB m = false → v = .slice none 0 0 ∧ ev = .iface 40 (.int .i64 1)) ∧ (msgB m = true → ev = .nilIface ∧ OB w' w.heap.size v (putM m)) := by
  obtain ⟨hb, ⟨h1, rfl⟩ | ⟨h1, v, rfl, h2⟩⟩ := h
  · exact ⟨_, _, rfl, hb, fun _ => ⟨rfl, rfl⟩, fun h => (by rw [h1] at h; cases h)⟩
  · exact ⟨_, _, rfl, hb, fun h => (by rw [h1] at h; cases h), fun _ => ⟨rfl, h2⟩⟩
def LawEnd (w w' : World) (e : Ending) : Prop := e = .returned (.bool true) ∧ Below w.heap.size w w'
set_option maxHeartbeats 16000000
set_option maxRecDepth 100000
theorem puts_any (m n : Msg) (hr : evR m.ev) (sf sg : ByteArray) (hsf : sf.data.toList = m.flt) (hsg : sg.data.toList = n.flt) (a b : Option Addr) (c d : Nat) (w : World) (hA : AttsAt w (Old w.heap.size) a m.ev.attrs) (hB : AttsAt w (Old w.heap.size) b n.ev.attrs) :
    Calls Try.prog 3 #[.agg #[.int .i64 m.kind, .int .i64 m.sub, .int .i64 m.ver, .int .i64 m.home, .int .i64 m.x1, .int .i64 m.y1, .int .i64 m.x2, .int .i64 m.y2, .string sf, .int .i64 m.ev.pub, .int .u32 (m.ev.seq : Nat), .int .i64 m.ev.x, .int .i64 m.ev.y, .slice a m.ev.attrs.length c], .agg #[.int .i64 n.kind, .int .i64 n.sub, .int .i64 n.ver, .int .i64 n.home, .int .i64 n.x1, .int .i64 n.y1, .int .i64 n.x2, .int .i64 n.y2, .string sg, .int .i64 n.ev.pub, .int .u32 (n.ev.seq : Nat), .int .i64 n.ev.x, .int .i64 n.ev.y, .slice b n.ev.attrs.length d]] w fun e w' => LawEnd w w' e := by
  obtain ⟨w1, hw1⟩ : ∃ W0 : World, W0 = (w.alloc (.cells #[.int .i64 m.kind, .int .i64 m.sub, .int .i64 m.ver, .int .i64 m.home, .int .i64 m.x1, .int .i64 m.y1, .int .i64 m.x2, .int .i64 m.y2, .string sf, .int .i64 m.ev.pub, .int .u32 (m.ev.seq : Nat), .int .i64 m.ev.x, .int .i64 m.ev.y, .slice a m.ev.attrs.length c] 31)).alloc (.cells #[.int .i64 n.kind, .int .i64 n.sub, .int .i64 n.ver, .int .i64 n.home, .int .i64 n.x1, .int .i64 n.y1, .int .i64 n.x2, .int .i64 n.y2, .string sg, .int .i64 n.ev.pub, .int .u32 (n.ev.seq : Nat), .int .i64 n.ev.x, .int .i64 n.ev.y, .slice b n.ev.attrs.length d] 31) := ⟨_, rfl⟩
  have B1 := Lib.hid (show Below w.heap.size w w1 by rw [hw1]; exact (below_alloc _ _).alloc (by simp) _)
  have X1 := Lib.hid (show Bx w1 none (.bool false) w.heap.size 31 #[.int .i64 m.kind, .int .i64 m.sub, .int .i64 m.ver, .int .i64 m.home, .int .i64 m.x1, .int .i64 m.y1, .int .i64 m.x2, .int .i64 m.y2, .string sf, .int .i64 m.ev.pub, .int .u32 (m.ev.seq : Nat), .int .i64 m.ev.x, .int .i64 m.ev.y, .slice a m.ev.attrs.length c] by rw [hw1]; exact ⟨(Below.heap_alloc _ _ _ (by simp)).trans (heap_alloc_new w _), by simp, by simp [Value.ownBlock]⟩)
  have Y1 := Lib.hid (show Bx w1 none (.bool false) (w.heap.size + 1) 31 #[.int .i64 n.kind, .int .i64 n.sub, .int .i64 n.ver, .int .i64 n.home, .int .i64 n.x1, .int .i64 n.y1, .int .i64 n.x2, .int .i64 n.y2, .string sg, .int .i64 n.ev.pub, .int .u32 (n.ev.seq : Nat), .int .i64 n.ev.x, .int .i64 n.ev.y, .slice b n.ev.attrs.length d] by rw [hw1]; exact ⟨by rw [show w.heap.size + 1 = (w.alloc (.cells #[.int .i64 m.kind, .int .i64 m.sub, .int .i64 m.ver, .int .i64 m.home, .int .i64 m.x1, .int .i64 m.y1, .int .i64 m.x2, .int .i64 m.y2, .string sf, .int .i64 m.ev.pub, .int .u32 (m.ev.seq : Nat), .int .i64 m.ev.x, .int .i64 m.ev.y, .slice a m.ev.attrs.length c] 31)).heap.size by simp]; exact heap_alloc_new _ _, by simp, by simp [Value.ownBlock]⟩)
  have HA := Lib.hid (show ∀ W, Below w1.heap.size w1 W → AttsAt W (Old W.heap.size) a m.ev.attrs from fun W hW => hA.far fun g hg => ⟨Nat.lt_of_lt_of_le hg (Nat.le_trans B1.out.size hW.size), (hW.block g (Nat.lt_of_lt_of_le hg B1.out.size)).trans (B1.out.block g hg)⟩)
  have HB := Lib.hid (show ∀ W, Below w1.heap.size w1 W → AttsAt W (Old W.heap.size) b n.ev.attrs from fun W hW => hB.far fun g hg => ⟨Nat.lt_of_lt_of_le hg (Nat.le_trans B1.out.size hW.size), (hW.block g (Nat.lt_of_lt_of_le hg B1.out.size)).trans (B1.out.block g hg)⟩)
  have KEEP := Lib.hid (show ∀ W, Below w1.heap.size w1 W → _ ∧ _ from fun W hW => ⟨(X1.out.later hW).c14, (Y1.out.later hW).c14⟩)
  obtain ⟨t, ht⟩ : ∃ t, msgB m = t := ⟨_, rfl⟩
  obtain ⟨ts, hts⟩ : ∃ t, msgS m n = t := ⟨_, rfl⟩
  have CA := Lib.hid (fun W (hW : Below w1.heap.size w1 W) => ht ▸ may_any m sf hsf a c W (HA.out W hW))
  have CAR := Lib.hid (fun W (hW : Below w1.heap.size w1 W) => ht ▸ mayR_any m sf hsf a c W (HA.out W hW))
  have CS := Lib.hid (fun W (hW : Below w1.heap.size w1 W) => hts ▸ same_any m n sf sg hsf hsg a b c d W (HA.out W hW) (HB.out W hW))
  have CR := Lib.hid (fun W (hW : Below w1.heap.size w1 W) => hts ▸ sameR_any m n sf sg hsf hsg a b c d W (HA.out W hW) (HB.out W hW))
  have CSm := Lib.hid (fun W (hW : Below w1.heap.size w1 W) => msgS_self m ▸ same_any m m sf sf hsf hsf a a c c W (HA.out W hW) (HA.out W hW))
  have CP := Lib.hid (fun W (hW : Below w1.heap.size w1 W) => put_any m hr sf hsf a c W (HA.out W hW))
  have CPR := Lib.hid (fun (h : t = true) W (hW : Below w1.heap.size w1 W) => putR_any m (ht.trans h) hr sf hsf a c W (HA.out W hW) (Nat.le_trans (putM_len m (ht.trans h) hr) (by omega)))
  have CMm := Lib.hid (fun W (hW : Below w1.heap.size w1 W) => small_any m sf a c W (HA.out W hW))
  have CMn := Lib.hid (fun W (hW : Below w1.heap.size w1 W) => small_any n sg b d W (HB.out W hW))
  have HT := Lib.hid ht
  have HS := Lib.hid (show ∀ W, Below w1.heap.size w1 W → (fun W => W.cell? ⟨w.heap.size, 0, none⟩ = some (.int .i64 m.kind) ∧ W.cell? ⟨w.heap.size, 1, none⟩ = some (.int .i64 m.sub) ∧ W.cell? ⟨w.heap.size, 2, none⟩ = some (.int .i64 m.ver) ∧ W.cell? ⟨w.heap.size, 3, none⟩ = some (.int .i64 m.home) ∧ W.cell? ⟨w.heap.size, 4, none⟩ = some (.int .i64 m.x1) ∧ W.cell? ⟨w.heap.size, 5, none⟩ = some (.int .i64 m.y1) ∧ W.cell? ⟨w.heap.size, 6, none⟩ = some (.int .i64 m.x2) ∧ W.cell? ⟨w.heap.size, 7, none⟩ = some (.int .i64 m.y2) ∧ W.cell? ⟨w.heap.size, 8, none⟩ = some (.string sf) ∧ W.cell? ⟨w.heap.size, 9, none⟩ = some (.int .i64 m.ev.pub) ∧ W.cell? ⟨w.heap.size, 10, none⟩ = some (.int .u32 (m.ev.seq : Nat)) ∧ W.cell? ⟨w.heap.size, 11, none⟩ = some (.int .i64 m.ev.x) ∧ W.cell? ⟨w.heap.size, 12, none⟩ = some (.int .i64 m.ev.y) ∧ W.cell? ⟨w.heap.size, 13, none⟩ = some (.slice a m.ev.attrs.length c) ∧ W.cell? ⟨w.heap.size + 1, 0, none⟩ = some (.int .i64 n.kind) ∧ W.cell? ⟨w.heap.size + 1, 1, none⟩ = some (.int .i64 n.sub) ∧ W.cell? ⟨w.heap.size + 1, 2, none⟩ = some (.int .i64 n.ver) ∧ W.cell? ⟨w.heap.size + 1, 3, none⟩ = some (.int .i64 n.home) ∧ W.cell? ⟨w.heap.size + 1, 4, none⟩ = some (.int .i64 n.x1) ∧ W.cell? ⟨w.heap.size + 1, 5, none⟩ = some (.int .i64 n.y1) ∧ W.cell? ⟨w.heap.size + 1, 6, none⟩ = some (.int .i64 n.x2) ∧ W.cell? ⟨w.heap.size + 1, 7, none⟩ = some (.int .i64 n.y2) ∧ W.cell? ⟨w.heap.size + 1, 8, none⟩ = some (.string sg) ∧ W.cell? ⟨w.heap.size + 1, 9, none⟩ = some (.int .i64 n.ev.pub) ∧ W.cell? ⟨w.heap.size + 1, 10, none⟩ = some (.int .u32 (n.ev.seq : Nat)) ∧ W.cell? ⟨w.heap.size + 1, 11, none⟩ = some (.int .i64 n.ev.x) ∧ W.cell? ⟨w.heap.size + 1, 12, none⟩ = some (.int .i64 n.ev.y) ∧ W.cell? ⟨w.heap.size + 1, 13, none⟩ = some (.slice b n.ev.attrs.length d)) W from fun W hW => by
    obtain ⟨⟨x0, x1, x2, x3, x4, x5, x6, x7, x8, x9, x10, x11, x12, x13⟩, y0, y1, y2, y3, y4, y5, y6, y7, y8, y9, y10, y11, y12, y13⟩ := KEEP.out _ hW
    exact ⟨x0, x1, x2, x3, x4, x5, x6, x7, x8, x9, x10, x11, x12, x13, y0, y1, y2, y3, y4, y5, y6, y7, y8, y9, y10, y11, y12, y13⟩)
  have HW := Lib.hid hw1
  clear hA hB hw1 ht hts hr hsf hsg
  go_enter Try.func3, Try.ntmps3
  go_wp2_with fail
  rw [← HW.out]
  refine Calls.mono (up_any w1) ?_
  rintro x w2 ⟨rfl, hb⟩
  have B2 := Lib.hid hb
  clear hb
  obtain ⟨⟨x0, x1, x2, x3, x4, x5, x6, x7, x8, x9, x10, x11, x12, x13⟩, y0, y1, y2, y3, y4, y5, y6, y7, y8, y9, y10, y11, y12, y13⟩ := KEEP.out _ B2.out
  go_wp2_with fail
  refine Calls.mono (CMm.out _ B2.out) ?_
  rintro x w3 ⟨⟨r, rfl⟩, hb⟩
  have B3 := Lib.hid (B2.out.trans (hb.mono B2.out.size))
  clear hb x0 x1 x2 x3 x4 x5 x6 x7 x8 x9 x10 x11 x12 x13 y0 y1 y2 y3 y4 y5 y6 y7 y8 y9 y10 y11 y12 y13
  obtain ⟨⟨x0, x1, x2, x3, x4, x5, x6, x7, x8, x9, x10, x11, x12, x13⟩, y0, y1, y2, y3, y4, y5, y6, y7, y8, y9, y10, y11, y12, y13⟩ := KEEP.out _ B3.out
  go_wp2_with fail
  refine Calls.mono (CMn.out _ B3.out) ?_
  rintro x w4 ⟨⟨s, rfl⟩, hb⟩
  have B4 := Lib.hid (B3.out.trans (hb.mono B3.out.size))
  clear hb x0 x1 x2 x3 x4 x5 x6 x7 x8 x9 x10 x11 x12 x13 y0 y1 y2 y3 y4 y5 y6 y7 y8 y9 y10 y11 y12 y13
  obtain ⟨⟨x0, x1, x2, x3, x4, x5, x6, x7, x8, x9, x10, x11, x12, x13⟩, y0, y1, y2, y3, y4, y5, y6, y7, y8, y9, y10, y11, y12, y13⟩ := KEEP.out _ B4.out
  cases r
  · go_wp2_with fail
    go_ret
    exact ⟨rfl, B1.out.trans (B4.out.mono B1.out.size)⟩
  cases s
  · go_wp2_with fail
    go_ret
    exact ⟨rfl, B1.out.trans (B4.out.mono B1.out.size)⟩
  go_wp2_with fail
  refine Calls.mono (CAR.out _ B4.out) ?_
  rintro x w5 ⟨rfl, hb⟩
  have B5 := Lib.hid (B4.out.trans (hb.mono B4.out.size))
  clear hb x0 x1 x2 x3 x4 x5 x6 x7 x8 x9 x10 x11 x12 x13 y0 y1 y2 y3 y4 y5 y6 y7 y8 y9 y10 y11 y12 y13
  obtain ⟨⟨x0, x1, x2, x3, x4, x5, x6, x7, x8, x9, x10, x11, x12, x13⟩, y0, y1, y2, y3, y4, y5, y6, y7, y8, y9, y10, y11, y12, y13⟩ := KEEP.out _ B5.out
  go_wp2_with fail
  refine Calls.mono (CP.out _ B5.out) ?_
  rintro x w6 hpe
  obtain ⟨v, ev, rfl, hb, hvf, hvt⟩ := hpe.slots
  rw [HT.out] at hvf hvt
  have B6 := Lib.hid (B5.out.trans (hb.mono B5.out.size))
  have HVF := Lib.hid hvf
  have HVT := Lib.hid (fun h : t = true => show ev = .nilIface ∧ ∃ a1 n1 c1, v = .slice a1 n1 c1 ∧ n1 = (putM m).length ∧ BytesAt w6 (Old w6.heap.size) a1 (putM m) by
    obtain ⟨h1, h2⟩ := hvt h
    obtain ⟨a1, n1, c1, rfl⟩ := own_slice h2
    obtain ⟨h3, h4, h5⟩ := h2.bytes
    exact ⟨h1, a1, n1, c1, rfl, h3, h5.far fun g hg => ⟨hg.2, rfl⟩⟩)
  clear hb hpe hvf hvt x0 x1 x2 x3 x4 x5 x6 x7 x8 x9 x10 x11 x12 x13 y0 y1 y2 y3 y4 y5 y6 y7 y8 y9 y10 y11 y12 y13
  obtain ⟨⟨x0, x1, x2, x3, x4, x5, x6, x7, x8, x9, x10, x11, x12, x13⟩, y0, y1, y2, y3, y4, y5, y6, y7, y8, y9, y10, y11, y12, y13⟩ := KEEP.out _ B6.out
  go_wp2_with fail
  clear x0 x1 x2 x3 x4 x5 x6 x7 x8 x9 x10 x11 x12 x13 y0 y1 y2 y3 y4 y5 y6 y7 y8 y9 y10 y11 y12 y13
  obtain ⟨wd, hwd⟩ : ∃ v, v = w6.drew := ⟨_, rfl⟩
  have HD := Lib.hid (show Below w6.heap.size w6 wd by rw [hwd]; exact (Below.refl _ _).drew)
  have H6Bd := HD
  have Bd := Lib.hid (B6.out.trans (HD.out.mono B6.out.size))
  have HWD := Lib.hid hwd
  clear hwd
  refine wp_region_held_drew (S := (fun W => W.cell? ⟨w.heap.size, 0, none⟩ = some (.int .i64 m.kind) ∧ W.cell? ⟨w.heap.size, 1, none⟩ = some (.int .i64 m.sub) ∧ W.cell? ⟨w.heap.size, 2, none⟩ = some (.int .i64 m.ver) ∧ W.cell? ⟨w.heap.size, 3, none⟩ = some (.int .i64 m.home) ∧ W.cell? ⟨w.heap.size, 4, none⟩ = some (.int .i64 m.x1) ∧ W.cell? ⟨w.heap.size, 5, none⟩ = some (.int .i64 m.y1) ∧ W.cell? ⟨w.heap.size, 6, none⟩ = some (.int .i64 m.x2) ∧ W.cell? ⟨w.heap.size, 7, none⟩ = some (.int .i64 m.y2) ∧ W.cell? ⟨w.heap.size, 8, none⟩ = some (.string sf) ∧ W.cell? ⟨w.heap.size, 9, none⟩ = some (.int .i64 m.ev.pub) ∧ W.cell? ⟨w.heap.size, 10, none⟩ = some (.int .u32 (m.ev.seq : Nat)) ∧ W.cell? ⟨w.heap.size, 11, none⟩ = some (.int .i64 m.ev.x) ∧ W.cell? ⟨w.heap.size, 12, none⟩ = some (.int .i64 m.ev.y) ∧ W.cell? ⟨w.heap.size, 13, none⟩ = some (.slice a m.ev.attrs.length c) ∧ W.cell? ⟨w.heap.size + 1, 0, none⟩ = some (.int .i64 n.kind) ∧ W.cell? ⟨w.heap.size + 1, 1, none⟩ = some (.int .i64 n.sub) ∧ W.cell? ⟨w.heap.size + 1, 2, none⟩ = some (.int .i64 n.ver) ∧ W.cell? ⟨w.heap.size + 1, 3, none⟩ = some (.int .i64 n.home) ∧ W.cell? ⟨w.heap.size + 1, 4, none⟩ = some (.int .i64 n.x1) ∧ W.cell? ⟨w.heap.size + 1, 5, none⟩ = some (.int .i64 n.y1) ∧ W.cell? ⟨w.heap.size + 1, 6, none⟩ = some (.int .i64 n.x2) ∧ W.cell? ⟨w.heap.size + 1, 7, none⟩ = some (.int .i64 n.y2) ∧ W.cell? ⟨w.heap.size + 1, 8, none⟩ = some (.string sg) ∧ W.cell? ⟨w.heap.size + 1, 9, none⟩ = some (.int .i64 n.ev.pub) ∧ W.cell? ⟨w.heap.size + 1, 10, none⟩ = some (.int .u32 (n.ev.seq : Nat)) ∧ W.cell? ⟨w.heap.size + 1, 11, none⟩ = some (.int .i64 n.ev.x) ∧ W.cell? ⟨w.heap.size + 1, 12, none⟩ = some (.int .i64 n.ev.y) ∧ W.cell? ⟨w.heap.size + 1, 13, none⟩ = some (.slice b n.ev.attrs.length d))) (by kernel_rfl) (by rw [← HWD.out]; exact HS.out _ Bd.out) (fun hHeld => ?_)
  rw [← HWD.out] at hHeld ⊢
  refine wpAnyH_take (i := 0) (v := ?vA0) rfl (by kernel_rfl) (by kernel_rfl) (by kernel_rfl) (fun _ _ _ h => h) (Or.inl ⟨by rfl, ?yA0⟩) hHeld ?rA0
  case yA0 => (intro W hSw; simp only [List.getElem_toArray, List.getElem_cons_succ, List.getElem_cons_zero]; go_simp; try (with_reducible rfl))
  simp only [List.getElem_toArray, List.getElem_cons_succ, List.getElem_cons_zero, Act.put, List.setIfInBounds_toArray, List.set_cons_zero, List.set_cons_succ]
  refine wpAnyH_take (i := 2) (v := ?vA2) rfl (by kernel_rfl) (by kernel_rfl) (by kernel_rfl) (fun _ _ _ h => h) (Or.inl ⟨by rfl, ?yA2⟩) hHeld ?rA2
  case yA2 => (intro W hSw; simp only [List.getElem_toArray, List.getElem_cons_succ, List.getElem_cons_zero]; go_simp; try (with_reducible rfl))
  simp only [List.getElem_toArray, List.getElem_cons_succ, List.getElem_cons_zero, Act.put, List.setIfInBounds_toArray, List.set_cons_zero, List.set_cons_succ]
  refine wpAnyH_ready (rs := [1]) (by kernel_rfl) (by simp) (AllReadyH.cons rfl (fun K hK => ?_) AllReadyH.nil)
  simp only [List.getElem_toArray, List.getElem_cons_succ, List.getElem_cons_zero]
  go_simp
  go_at_call 10
  refine Calls.mono (CA.out _ Bd.out) ?_
  rintro e Wa ⟨rfl, hbb⟩
  try go_wp2_with fail
  have Ba := Lib.hid (Bd.out.trans (hbb.mono Bd.out.size))
  have H6Ba := Lib.hid (H6Bd.out.trans (hbb.mono H6Bd.out.size))
  clear hbb
  refine hK.out _ _ (HS.out _ Ba.out) (fun hHeld1 => ?_)
  clear hK K hHeld
  have hHeld := hHeld1; clear hHeld1
  try simp only [List.getElem_toArray, List.getElem_cons_succ, List.getElem_cons_zero, Act.put, List.setIfInBounds_toArray, List.set_cons_zero, List.set_cons_succ]
  refine wpAnyH_take (i := 3) (v := ?vB3) rfl (by kernel_rfl) (by kernel_rfl) (by kernel_rfl) (fun _ _ _ h => h) (Or.inl ⟨by rfl, ?yB3⟩) hHeld ?rB3
  case yB3 => (intro W hSw; simp only [List.getElem_toArray, List.getElem_cons_succ, List.getElem_cons_zero]; go_simp; try (with_reducible rfl))
  simp only [List.getElem_toArray, List.getElem_cons_succ, List.getElem_cons_zero, Act.put, List.setIfInBounds_toArray, List.set_cons_zero, List.set_cons_succ]
  refine wpAnyH_take (i := 4) (v := ?vB4) rfl (by kernel_rfl) (by kernel_rfl) (by kernel_rfl) (fun _ _ _ h => h) (Or.inl ⟨by rfl, ?yB4⟩) hHeld ?rB4
  case yB4 => (intro W hSw; simp only [List.getElem_toArray, List.getElem_cons_succ, List.getElem_cons_zero]; go_simp; try (with_reducible rfl))
  simp only [List.getElem_toArray, List.getElem_cons_succ, List.getElem_cons_zero, Act.put, List.setIfInBounds_toArray, List.set_cons_zero, List.set_cons_succ]
  refine wpAnyH_take (i := 5) (v := ?vB5) rfl (by kernel_rfl) (by kernel_rfl) (by kernel_rfl) (fun _ _ _ h => h) (Or.inl ⟨by rfl, ?yB5⟩) hHeld ?rB5
  case yB5 => (intro W hSw; simp only [List.getElem_toArray, List.getElem_cons_succ, List.getElem_cons_zero]; go_simp; try (with_reducible rfl))
  simp only [List.getElem_toArray, List.getElem_cons_succ, List.getElem_cons_zero, Act.put, List.setIfInBounds_toArray, List.set_cons_zero, List.set_cons_succ]
  refine wpAnyH_take (i := 6) (v := ?vB6) rfl (by kernel_rfl) (by kernel_rfl) (by kernel_rfl) (fun _ _ _ h => h) (Or.inl ⟨by rfl, ?yB6⟩) hHeld ?rB6
  case yB6 => (intro W hSw; simp only [List.getElem_toArray, List.getElem_cons_succ, List.getElem_cons_zero]; go_simp; try (with_reducible rfl))
  simp only [List.getElem_toArray, List.getElem_cons_succ, List.getElem_cons_zero, Act.put, List.setIfInBounds_toArray, List.set_cons_zero, List.set_cons_succ]
  refine wpAnyH_take (i := 8) (v := ?vB8) rfl (by kernel_rfl) (by kernel_rfl) (by kernel_rfl) (fun _ _ _ h => h) (Or.inl ⟨by rfl, ?yB8⟩) hHeld ?rB8
  case yB8 => (intro W hSw; simp only [List.getElem_toArray, List.getElem_cons_succ, List.getElem_cons_zero]; go_simp; try (with_reducible rfl))
  simp only [List.getElem_toArray, List.getElem_cons_succ, List.getElem_cons_zero, Act.put, List.setIfInBounds_toArray, List.set_cons_zero, List.set_cons_succ]
  refine wpAnyH_take (i := 9) (v := ?vB9) rfl (by kernel_rfl) (by kernel_rfl) (by kernel_rfl) (fun _ _ _ h => h) (Or.inl ⟨by rfl, ?yB9⟩) hHeld ?rB9
  case yB9 => (intro W hSw; simp only [List.getElem_toArray, List.getElem_cons_succ, List.getElem_cons_zero]; go_simp; try (with_reducible rfl))
  simp only [List.getElem_toArray, List.getElem_cons_succ, List.getElem_cons_zero, Act.put, List.setIfInBounds_toArray, List.set_cons_zero, List.set_cons_succ]
  refine wpAnyH_ready (rs := [7]) (by kernel_rfl) (by simp) (AllReadyH.cons rfl (fun K hK => ?_) AllReadyH.nil)
  simp only [List.getElem_toArray, List.getElem_cons_succ, List.getElem_cons_zero]
  go_simp
  go_at_call 11
  refine Calls.mono (CS.out _ Ba.out) ?_
  rintro e WP1 ⟨rfl, hbb⟩
  try go_wp2_with fail
  have BxP := Lib.hid (Ba.out.trans (hbb.mono Ba.out.size))
  have H6BxP := Lib.hid (H6Ba.out.trans (hbb.mono H6Ba.out.size))
  clear hbb
  refine hK.out _ _ (HS.out _ BxP.out) (fun hHeld1 => ?_)
  clear hK K hHeld
  have hHeld := hHeld1; clear hHeld1
  try simp only [List.getElem_toArray, List.getElem_cons_succ, List.getElem_cons_zero, Act.put, List.setIfInBounds_toArray, List.set_cons_zero, List.set_cons_succ]
  refine wpAnyH_ready (rs := [10]) (by kernel_rfl) (by simp) (AllReadyH.cons rfl (fun K hK => ?_) AllReadyH.nil)
  simp only [List.getElem_toArray, List.getElem_cons_succ, List.getElem_cons_zero]
  go_simp
  go_at_call 12
  refine Calls.mono (CR.out _ BxP.out) ?_
  rintro e WP2 ⟨rfl, hbb⟩
  try go_wp2_with fail
  have ByP := Lib.hid (BxP.out.trans (hbb.mono BxP.out.size))
  have H6ByP := Lib.hid (H6BxP.out.trans (hbb.mono H6BxP.out.size))
  clear hbb
  refine hK.out _ _ (HS.out _ ByP.out) (fun hHeld1 => ?_)
  clear hK K hHeld
  have hHeld := hHeld1; clear hHeld1
  try simp only [List.getElem_toArray, List.getElem_cons_succ, List.getElem_cons_zero, Act.put, List.setIfInBounds_toArray, List.set_cons_zero, List.set_cons_succ]
  refine wpAnyH_take (i := 11) (v := ?vPt11) rfl (by kernel_rfl) (by kernel_rfl) (by kernel_rfl) (fun _ _ _ h => h) (Or.inl ⟨by rfl, ?yPt11⟩) hHeld ?rPt11
  case yPt11 => (intro W hSw; simp only [List.getElem_toArray, List.getElem_cons_succ, List.getElem_cons_zero]; go_simp; try (with_reducible rfl))
  simp only [List.getElem_toArray, List.getElem_cons_succ, List.getElem_cons_zero, Act.put, List.setIfInBounds_toArray, List.set_cons_zero, List.set_cons_succ]
  refine wpAnyH_take (i := 12) (v := ?vPt12) rfl (by kernel_rfl) (by kernel_rfl) (by kernel_rfl) (fun _ _ _ h => h) (Or.inl ⟨by rfl, ?yPt12⟩) hHeld ?rPt12
  case yPt12 => (intro W hSw; simp only [List.getElem_toArray, List.getElem_cons_succ, List.getElem_cons_zero]; go_simp; try (with_reducible rfl))
  simp only [List.getElem_toArray, List.getElem_cons_succ, List.getElem_cons_zero, Act.put, List.setIfInBounds_toArray, List.set_cons_zero, List.set_cons_succ]
  refine wpAnyH_take (i := 13) (v := ?vPt13) rfl (by kernel_rfl) (by kernel_rfl) (by kernel_rfl) (fun _ _ _ h => h) (Or.inl ⟨by rfl, ?yPt13⟩) hHeld ?rPt13
  case yPt13 => (intro W hSw; simp only [List.getElem_toArray, List.getElem_cons_succ, List.getElem_cons_zero]; go_simp; try (with_reducible rfl))
  simp only [List.getElem_toArray, List.getElem_cons_succ, List.getElem_cons_zero, Act.put, List.setIfInBounds_toArray, List.set_cons_zero, List.set_cons_succ]
  refine wpAnyH_take (i := 14) (v := ?vPt14) rfl (by kernel_rfl) (by kernel_rfl) (by kernel_rfl) (fun _ _ _ h => h) (Or.inl ⟨by rfl, ?yPt14⟩) hHeld ?rPt14
  case yPt14 => (intro W hSw; simp only [List.getElem_toArray, List.getElem_cons_succ, List.getElem_cons_zero]; go_simp; try (with_reducible rfl))
  simp only [List.getElem_toArray, List.getElem_cons_succ, List.getElem_cons_zero, Act.put, List.setIfInBounds_toArray, List.set_cons_zero, List.set_cons_succ]
  refine wpAnyH_take (i := 15) (v := ?vPt15) rfl (by kernel_rfl) (by kernel_rfl) (by kernel_rfl) (fun _ _ _ h => h) (Or.inl ⟨by rfl, ?yPt15⟩) hHeld ?rPt15
  case yPt15 => (intro W hSw; simp only [List.getElem_toArray, List.getElem_cons_succ, List.getElem_cons_zero]; go_simp; try (with_reducible rfl))
  simp only [List.getElem_toArray, List.getElem_cons_succ, List.getElem_cons_zero, Act.put, List.setIfInBounds_toArray, List.set_cons_zero, List.set_cons_succ]
  refine wpAnyH_ready (rs := [16]) (by kernel_rfl) (by simp) (AllReadyH.cons rfl (fun K hK => ?_) AllReadyH.nil)
  simp only [List.getElem_toArray, List.getElem_cons_succ, List.getElem_cons_zero]
  go_simp
  go_at_call 11
  refine Calls.mono (CSm.out _ ByP.out) ?_
  rintro e WeP ⟨rfl, hbb⟩
  try go_wp2_with fail
  have BeP := Lib.hid (ByP.out.trans (hbb.mono ByP.out.size))
  have H6BeP := Lib.hid (H6ByP.out.trans (hbb.mono H6ByP.out.size))
  clear hbb
  refine hK.out _ _ (HS.out _ BeP.out) (fun hHeld1 => ?_)
  clear hK K hHeld
  have hHeld := hHeld1; clear hHeld1
  try simp only [List.getElem_toArray, List.getElem_cons_succ, List.getElem_cons_zero, Act.put, List.setIfInBounds_toArray, List.set_cons_zero, List.set_cons_succ]
  refine wpAnyH_take (i := 17) (v := ?vPu17) rfl (by kernel_rfl) (by kernel_rfl) (by kernel_rfl) (fun _ _ _ h => h) (Or.inl ⟨by rfl, ?yPu17⟩) hHeld ?rPu17
  case yPu17 => (intro W hSw; simp only [List.getElem_toArray, List.getElem_cons_succ, List.getElem_cons_zero]; go_simp; try (with_reducible rfl))
  simp only [List.getElem_toArray, List.getElem_cons_succ, List.getElem_cons_zero, Act.put, List.setIfInBounds_toArray, List.set_cons_zero, List.set_cons_succ]
  refine wpAnyH_take (i := 18) (v := ?vPu18) rfl (by kernel_rfl) (by kernel_rfl) (by kernel_rfl) (fun _ _ _ h => h) (Or.inl ⟨by rfl, ?yPu18⟩) hHeld ?rPu18
  case yPu18 => (intro W hSw; simp only [List.getElem_toArray, List.getElem_cons_succ, List.getElem_cons_zero]; go_simp; try (with_reducible rfl))
  simp only [List.getElem_toArray, List.getElem_cons_succ, List.getElem_cons_zero, Act.put, List.setIfInBounds_toArray, List.set_cons_zero, List.set_cons_succ]
  refine wpAnyH_done (by kernel_rfl) ?_ _
  clear hHeld
  have BE := BeP
  have H6E := H6BeP
  obtain ⟨WE, hWE⟩ : ∃ W0 : World, W0 = WeP := ⟨_, rfl⟩
  rw [← hWE] at BE H6E ⊢
  clear hWE
  cases t
  · obtain ⟨rfl, rfl⟩ := HVF.out rfl
    have q1 := Cn.eql_codes 1 1
    go_wp2_with fail
    go_ret
    exact ⟨rfl, B1.out.trans (BE.out.mono B1.out.size)⟩
  obtain ⟨rfl, a1, n1, c1, rfl, hn1, hby⟩ := HVT.out rfl
  have HBY := Lib.hid (show ∀ W, Below w1.heap.size w1 W → Below w6.heap.size w6 W → (fun W => W.cell? ⟨w.heap.size, 0, none⟩ = some (.int .i64 m.kind) ∧ W.cell? ⟨w.heap.size, 1, none⟩ = some (.int .i64 m.sub) ∧ W.cell? ⟨w.heap.size, 2, none⟩ = some (.int .i64 m.ver) ∧ W.cell? ⟨w.heap.size, 3, none⟩ = some (.int .i64 m.home) ∧ W.cell? ⟨w.heap.size, 4, none⟩ = some (.int .i64 m.x1) ∧ W.cell? ⟨w.heap.size, 5, none⟩ = some (.int .i64 m.y1) ∧ W.cell? ⟨w.heap.size, 6, none⟩ = some (.int .i64 m.x2) ∧ W.cell? ⟨w.heap.size, 7, none⟩ = some (.int .i64 m.y2) ∧ W.cell? ⟨w.heap.size, 8, none⟩ = some (.string sf) ∧ W.cell? ⟨w.heap.size, 9, none⟩ = some (.int .i64 m.ev.pub) ∧ W.cell? ⟨w.heap.size, 10, none⟩ = some (.int .u32 (m.ev.seq : Nat)) ∧ W.cell? ⟨w.heap.size, 11, none⟩ = some (.int .i64 m.ev.x) ∧ W.cell? ⟨w.heap.size, 12, none⟩ = some (.int .i64 m.ev.y) ∧ W.cell? ⟨w.heap.size, 13, none⟩ = some (.slice a m.ev.attrs.length c) ∧ (convert 34 9 (.slice a1 n1 c1)).run Try.prog W = .ok (.string ⟨(putM m).toArray⟩) W) W from fun W hW h6 => by
    obtain ⟨⟨x0, x1, x2, x3, x4, x5, x6, x7, x8, x9, x10, x11, x12, x13⟩, y0, y1, y2, y3, y4, y5, y6, y7, y8, y9, y10, y11, y12, y13⟩ := KEEP.out _ hW
    refine ⟨x0, x1, x2, x3, x4, x5, x6, x7, x8, x9, x10, x11, x12, x13, ?_⟩
    rw [hn1]
    exact run_text a1 c1 (putM m) W (hby.far fun g hg => ⟨Nat.lt_of_lt_of_le hg h6.size, h6.block g hg⟩))
  have HN1 := Lib.hid hn1
  clear hby hn1
  obtain ⟨⟨x0, x1, x2, x3, x4, x5, x6, x7, x8, x9, x10, x11, x12, x13⟩, y0, y1, y2, y3, y4, y5, y6, y7, y8, y9, y10, y11, y12, y13⟩ := KEEP.out _ BE.out
  have BE6 := Lib.hid (show Below w6.heap.size w6 WE from H6E.out)
  have q1 := Cn.nil_nil
  have q2 := str_eq
  go_wp2_with fail
  clear x0 x1 x2 x3 x4 x5 x6 x7 x8 x9 x10 x11 x12 x13 y0 y1 y2 y3 y4 y5 y6 y7 y8 y9 y10 y11 y12 y13
  obtain ⟨we, hwe⟩ : ∃ v, v = WE.drew := ⟨_, rfl⟩
  have HDE := Lib.hid (show Below WE.heap.size WE we by rw [hwe]; exact (Below.refl _ _).drew)
  have Bf := Lib.hid (BE.out.trans (HDE.out.mono BE.out.size))
  have B6f := Lib.hid (BE6.out.trans (HDE.out.mono BE6.out.size))
  have HWE := Lib.hid hwe
  clear hwe
  refine wp_region_held_drew (S := (fun W => W.cell? ⟨w.heap.size, 0, none⟩ = some (.int .i64 m.kind) ∧ W.cell? ⟨w.heap.size, 1, none⟩ = some (.int .i64 m.sub) ∧ W.cell? ⟨w.heap.size, 2, none⟩ = some (.int .i64 m.ver) ∧ W.cell? ⟨w.heap.size, 3, none⟩ = some (.int .i64 m.home) ∧ W.cell? ⟨w.heap.size, 4, none⟩ = some (.int .i64 m.x1) ∧ W.cell? ⟨w.heap.size, 5, none⟩ = some (.int .i64 m.y1) ∧ W.cell? ⟨w.heap.size, 6, none⟩ = some (.int .i64 m.x2) ∧ W.cell? ⟨w.heap.size, 7, none⟩ = some (.int .i64 m.y2) ∧ W.cell? ⟨w.heap.size, 8, none⟩ = some (.string sf) ∧ W.cell? ⟨w.heap.size, 9, none⟩ = some (.int .i64 m.ev.pub) ∧ W.cell? ⟨w.heap.size, 10, none⟩ = some (.int .u32 (m.ev.seq : Nat)) ∧ W.cell? ⟨w.heap.size, 11, none⟩ = some (.int .i64 m.ev.x) ∧ W.cell? ⟨w.heap.size, 12, none⟩ = some (.int .i64 m.ev.y) ∧ W.cell? ⟨w.heap.size, 13, none⟩ = some (.slice a m.ev.attrs.length c) ∧ (convert 34 9 (.slice a1 n1 c1)).run Try.prog W = .ok (.string ⟨(putM m).toArray⟩) W)) (by kernel_rfl) (by rw [← HWE.out]; exact HBY.out _ Bf.out B6f.out) (fun hHeld => ?_)
  rw [← HWE.out] at hHeld ⊢
  refine wpAnyH_take (i := 0) (v := ?vF0) rfl (by kernel_rfl) (by kernel_rfl) (by kernel_rfl) (fun _ _ _ h => h) (Or.inl ⟨by rfl, ?yF0⟩) hHeld ?rF0
  case yF0 => (intro W hSw; simp only [List.getElem_toArray, List.getElem_cons_succ, List.getElem_cons_zero]; go_simp; try (with_reducible rfl))
  simp only [List.getElem_toArray, List.getElem_cons_succ, List.getElem_cons_zero, Act.put, List.setIfInBounds_toArray, List.set_cons_zero, List.set_cons_succ]
  refine wpAnyH_take (i := 1) (v := ?vF1) rfl (by kernel_rfl) (by kernel_rfl) (by kernel_rfl) (fun _ _ _ h => h) (Or.inl ⟨by rfl, ?yF1⟩) hHeld ?rF1
  case yF1 => (intro W hSw; simp only [List.getElem_toArray, List.getElem_cons_succ, List.getElem_cons_zero]; go_simp; try (with_reducible rfl))
  simp only [List.getElem_toArray, List.getElem_cons_succ, List.getElem_cons_zero, Act.put, List.setIfInBounds_toArray, List.set_cons_zero, List.set_cons_succ]
  refine wpAnyH_take (i := 2) (v := ?vF2) rfl (by kernel_rfl) (by kernel_rfl) (by kernel_rfl) (fun _ _ _ h => h) (Or.inl ⟨by rfl, ?yF2⟩) hHeld ?rF2
  case yF2 => (intro W hSw; simp only [List.getElem_toArray, List.getElem_cons_succ, List.getElem_cons_zero]; go_simp; try (with_reducible rfl))
  simp only [List.getElem_toArray, List.getElem_cons_succ, List.getElem_cons_zero, Act.put, List.setIfInBounds_toArray, List.set_cons_zero, List.set_cons_succ]
  refine wpAnyH_take (i := 3) (v := ?vF3) rfl (by kernel_rfl) (by kernel_rfl) (by kernel_rfl) (fun _ _ _ h => h) (Or.inl ⟨by rfl, ?yF3⟩) hHeld ?rF3
  case yF3 => (intro W hSw; simp only [List.getElem_toArray, List.getElem_cons_succ, List.getElem_cons_zero]; go_simp; try (with_reducible rfl))
  simp only [List.getElem_toArray, List.getElem_cons_succ, List.getElem_cons_zero, Act.put, List.setIfInBounds_toArray, List.set_cons_zero, List.set_cons_succ]
  refine wpAnyH_take (i := 4) (v := ?vF4) rfl (by kernel_rfl) (by kernel_rfl) (by kernel_rfl) (fun _ _ _ h => h) (Or.inl ⟨by rfl, ?yF4⟩) hHeld ?rF4
  case yF4 => (intro W hSw; simp only [List.getElem_toArray, List.getElem_cons_succ, List.getElem_cons_zero]; go_simp; try (with_reducible rfl))
  simp only [List.getElem_toArray, List.getElem_cons_succ, List.getElem_cons_zero, Act.put, List.setIfInBounds_toArray, List.set_cons_zero, List.set_cons_succ]
  refine wpAnyH_take (i := 5) (v := ?vF5) rfl (by kernel_rfl) (by kernel_rfl) (by kernel_rfl) (fun _ _ _ h => h) (Or.inl ⟨by rfl, ?yF5⟩) hHeld ?rF5
  case yF5 => (intro W hSw; simp only [List.getElem_toArray, List.getElem_cons_succ, List.getElem_cons_zero]; go_simp; try (with_reducible rfl))
  simp only [List.getElem_toArray, List.getElem_cons_succ, List.getElem_cons_zero, Act.put, List.setIfInBounds_toArray, List.set_cons_zero, List.set_cons_succ]
  refine wpAnyH_take (i := 6) (v := ?vF6) rfl (by kernel_rfl) (by kernel_rfl) (by kernel_rfl) (fun _ _ _ h => h) (Or.inl ⟨by rfl, ?yF6⟩) hHeld ?rF6
  case yF6 => (intro W hSw; simp only [List.getElem_toArray, List.getElem_cons_succ, List.getElem_cons_zero]; go_simp; try (with_reducible rfl))
  simp only [List.getElem_toArray, List.getElem_cons_succ, List.getElem_cons_zero, Act.put, List.setIfInBounds_toArray, List.set_cons_zero, List.set_cons_succ]
  refine wpAnyH_take (i := 7) (v := ?vF7) rfl (by kernel_rfl) (by kernel_rfl) (by kernel_rfl) (fun _ _ _ h => h) (Or.inl ⟨by rfl, ?yF7⟩) hHeld ?rF7
  case yF7 => (intro W hSw; simp only [List.getElem_toArray, List.getElem_cons_succ, List.getElem_cons_zero]; go_simp; try (with_reducible rfl))
  simp only [List.getElem_toArray, List.getElem_cons_succ, List.getElem_cons_zero, Act.put, List.setIfInBounds_toArray, List.set_cons_zero, List.set_cons_succ]
  refine wpAnyH_take (i := 8) (v := ?vF8) rfl (by kernel_rfl) (by kernel_rfl) (by kernel_rfl) (fun _ _ _ h => h) (Or.inl ⟨by rfl, ?yF8⟩) hHeld ?rF8
  case yF8 => (intro W hSw; simp only [List.getElem_toArray, List.getElem_cons_succ, List.getElem_cons_zero]; go_simp; try (with_reducible rfl))
  simp only [List.getElem_toArray, List.getElem_cons_succ, List.getElem_cons_zero, Act.put, List.setIfInBounds_toArray, List.set_cons_zero, List.set_cons_succ]
  refine wpAnyH_ready (rs := [9]) (by kernel_rfl) (by simp) (AllReadyH.cons rfl (fun K hK => ?_) AllReadyH.nil)
  simp only [List.getElem_toArray, List.getElem_cons_succ, List.getElem_cons_zero]
  go_simp
  go_at_call 13
  refine Calls.mono (CPR.out (by first | rfl | trivial) _ Bf.out) ?_
  rintro e W9 ⟨v9, rfl, ho9, hbb⟩
  try go_wp2_with fail
  have Bg := Lib.hid (Bf.out.trans (hbb.mono Bf.out.size))
  have B6g := Lib.hid (B6f.out.trans (hbb.mono B6f.out.size))
  obtain ⟨a9, n9, c9, rfl⟩ := own_slice ho9
  obtain ⟨rfl, -, hb9⟩ := ho9.bytes
  have htx := run_text a9 c9 (putM m) W9 hb9
  clear hbb ho9 hb9
  refine hK.out _ _ (HBY.out _ Bg.out B6g.out) (fun hHeld1 => ?_)
  clear hK K hHeld
  have hHeld := hHeld1; clear hHeld1
  try simp only [List.getElem_toArray, List.getElem_cons_succ, List.getElem_cons_zero, Act.put, List.setIfInBounds_toArray, List.set_cons_zero, List.set_cons_succ]
  refine wpAnyH_ready (rs := [10]) (by kernel_rfl) (by simp) (AllReadyH.cons rfl (fun K hK => ?_) AllReadyH.nil)
  simp only [List.getElem_toArray, List.getElem_cons_succ, List.getElem_cons_zero]
  go_simp
  refine hK.out _ _ (HBY.out _ Bg.out B6g.out) (fun hHeld1 => ?_)
  clear hK K hHeld
  have hHeld := hHeld1; clear hHeld1
  try simp only [List.getElem_toArray, List.getElem_cons_succ, List.getElem_cons_zero, Act.put, List.setIfInBounds_toArray, List.set_cons_zero, List.set_cons_succ]
  refine wpAnyH_take (i := 11) (v := .bool true) rfl (by kernel_rfl) (by kernel_rfl) (by kernel_rfl) (fun _ _ _ h => h) (Or.inl ⟨by rfl, ?yH11⟩) hHeld ?rH11
  case yH11 => (intro W hSw; simp only [List.getElem_toArray, List.getElem_cons_succ, List.getElem_cons_zero]; go_simp; try simp)
  simp only [List.getElem_toArray, List.getElem_cons_succ, List.getElem_cons_zero, Act.put, List.setIfInBounds_toArray, List.set_cons_zero, List.set_cons_succ]
  refine wpAnyH_take (i := 12) (v := ?vH12) rfl (by kernel_rfl) (by kernel_rfl) (by kernel_rfl) (fun _ _ _ h => h) (Or.inl ⟨by rfl, ?yH12⟩) hHeld ?rH12
  case yH12 => (intro W hSw; simp only [List.getElem_toArray, List.getElem_cons_succ, List.getElem_cons_zero]; go_simp; try (with_reducible rfl))
  simp only [List.getElem_toArray, List.getElem_cons_succ, List.getElem_cons_zero, Act.put, List.setIfInBounds_toArray, List.set_cons_zero, List.set_cons_succ]
  refine wpAnyH_take (i := 13) (v := ?vH13) rfl (by kernel_rfl) (by kernel_rfl) (by kernel_rfl) (fun _ _ _ h => h) (Or.inl ⟨by rfl, ?yH13⟩) hHeld ?rH13
  case yH13 => (intro W hSw; simp only [List.getElem_toArray, List.getElem_cons_succ, List.getElem_cons_zero]; go_simp; try (with_reducible rfl))
  simp only [List.getElem_toArray, List.getElem_cons_succ, List.getElem_cons_zero, Act.put, List.setIfInBounds_toArray, List.set_cons_zero, List.set_cons_succ]
  refine wpAnyH_done (by kernel_rfl) ?_ _
  clear hHeld
  go_wp2_with fail
  go_ret
  exact ⟨rfl, B1.out.trans (Bg.out.mono B1.out.size)⟩
end Go.Proofs.Ytndgbdbjmogioaa.Wi
