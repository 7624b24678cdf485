/-
  The law of layer 10 that a message's bytes read as it, that no part of them and nothing longer does, and that what reads as a message is its bytes, holds. Memory that was there is left as it was.
-/
import Derived.Test.YtndgbdbjmogioaaWiUp
import Derived.Test.YtndgbdbjmogioaaWiSmall
import Derived.Test.YtndgbdbjmogioaaWiSame
import Derived.Test.YtndgbdbjmogioaaWiGet
import Derived.Test.YtndgbdbjmogioaaWiPut
namespace Go.Proofs.Ytndgbdbjmogioaa.Wi
open Go.RowKit Go.Proofs.Ytndgbdbjmogioaa.Fl
set_option linter.unusedVariables false
set_option linter.unusedSimpArgs false

theorem eqL_selfB {α : Type} (q : α → α → Bool) (h : ∀ x, q x x = true) : ∀ l : List α, eqL q l l = true
  | [] => rfl
  | x :: l => by simp [eqL, h x, eqL_selfB q h l]
theorem attEq_selfB (v : Att) : attEq v v = true := by simp [attEq]
theorem msgS_selfB (m : Msg) : msgS m m = true := by simp [msgS, recS, evS, attsEq, eqL_selfB attEq attEq_selfB]
theorem str_eqB (s : ByteArray) (w : World) : (binOp .eql 9 (.string s) (.string s)).run Try.prog w = .ok (.bool true) w := by
  rw [show (binOp .eql 9 (.string s) (.string s)).run Try.prog w = .ok (.bool (s.toList == s.toList)) w from by kernel_rfl]
  simp
theorem neq_codes (n j : Int) (w : World) : (binOp .neq 36 (.iface 40 (.int .i64 n)) (.iface 40 (.int .i64 j))).run Try.prog w = .ok (.bool (!(n == j))) w := by kernel_rfl
/-- What Put tells, slot by slot. -/
theorem PutEnd.slotsB {m : Msg} {w w' : World} {e : Ending} (h : PutEnd m w w' e) : Below w.heap.size w w' ∧ ((msgB m = false ∧ e = .returned (.tuple #[.slice none 0 0, .iface 40 (.int .i64 1)])) ∨ (msgB m = true ∧ ∃ a n c, e = .returned (.tuple #[.slice a n c, .nilIface]) ∧ n = (putM m).length ∧ n ≤ c ∧ BytesAt w' (Old w'.heap.size) a (putM m))) := by
  obtain ⟨hb, h1 | ⟨h1, v, rfl, h2⟩⟩ := h
  · exact ⟨hb, Or.inl h1⟩
  · obtain ⟨a, n, c, rfl⟩ := own_slice h2
    obtain ⟨h3, h4, h5⟩ := h2.bytes
    exact ⟨hb, Or.inr ⟨h1, a, n, c, rfl, h3, by omega, h5.far fun g hg => ⟨hg.2, rfl⟩⟩⟩
theorem GetEnd.cells {l : List UInt8} {w w' : World} {e : Ending} (h : GetEnd l w w' e) {k : Nat} {n : Msg} (hr : readM l = (k, n)) : ∃ a c, e = .returned (.tuple #[.agg #[.int .i64 n.kind, .int .i64 n.sub, .int .i64 n.ver, .int .i64 n.home, .int .i64 n.x1, .int .i64 n.y1, .int .i64 n.x2, .int .i64 n.y2, .string ⟨n.flt.toArray⟩, .int .i64 n.ev.pub, .int .u32 (n.ev.seq : Nat), .int .i64 n.ev.x, .int .i64 n.ev.y, .slice a n.ev.attrs.length c], errW k]) ∧ AttsAt w' (Old w'.heap.size) a n.ev.attrs ∧ Below w.heap.size w w' := by
  obtain ⟨a, c, rfl, h2, h3⟩ := h
  rw [hr] at h2 ⊢
  exact ⟨a, c, rfl, h2, h3⟩
theorem GetEnd.none {l : List UInt8} {w w' : World} {e : Ending} (h : GetEnd l w w' e) {k : Nat} (hr : readM l = (k, msg0)) (hk : k ≠ 0) : ∃ a c, e = .returned (.tuple #[.agg #[.int .i64 0, .int .i64 0, .int .i64 0, .int .i64 0, .int .i64 0, .int .i64 0, .int .i64 0, .int .i64 0, .string ⟨#[]⟩, .int .i64 0, .int .u32 0, .int .i64 0, .int .i64 0, .slice a 0 c], .iface 40 (.int .i64 (k : Nat))]) ∧ Below w.heap.size w w' := by
  obtain ⟨a, c, rfl, h2, h3⟩ := h
  rw [hr] at h2 ⊢
  refine ⟨a, c, ?_, h3⟩
  unfold errW
  rw [if_neg hk]
  rfl
theorem read_bad {l : List UInt8} {k : Nat} {n : Msg} (h : readM l = (k, n)) (hk : k ≠ 0) : n = msg0 := by
  unfold readM at h
  split at h
  · injection h with h1 h2
    exact h2.symm
  · split at h
    · injection h with h1 h2
      exact absurd h1.symm hk
    · injection h with h1 h2
      exact h2.symm
theorem below_grown {w W V : World} {z : Nat} {r : Option Nat} (h : Below z w W) (hz : z ≤ W.heap.size) (hg : W.grownBy V r) (hr : ∀ k, r = some k → z ≤ k) : Below z w V :=
  ⟨hg.os.trans h.os, hg.tape.trans h.tape, hg.output.trans h.output, Nat.le_trans h.size hg.size, fun k hk => (hg.block k (by omega) (fun e => by have := hr k e.symm; omega)).trans (h.block k hk)⟩
theorem one_bytes (l : List UInt8) : ∀ u ∈ byC l, u.oneCell' = true := by
  intro u hu
  simp only [byC, List.mem_map] at hu
  obtain ⟨x, -, rfl⟩ := hu
  rfl
def LawEndB (w w' : World) (e : Ending) : Prop := e = .returned (.bool true) ∧ Below w.heap.size w w'
theorem run_emptyB (w : World) {i0 : TypeInfo} (hi : Try.prog.info? 5 = some i0) : (Instr.buildSlice 34 0 #[]).run Try.prog w = .ok (.slice (some ⟨w.heap.size, 0, none⟩) 0 0) (w.alloc (.cells #[] 5)) := by
  have hu := Try.underlying34
  simp [Instr.buildSlice, run_underlying hu, sizeOf, typeInfo, hi, newRow, Instr.fill]
  rw [show Array.range 0 = (#[] : Array Nat) by decide]
  simp
theorem wpList_emptyB {w : World} {ops : Array Oper} {rest : List Oper} {o : Oper} {a : Act} {Q : Exit → Act → World → Prop} {i0 : TypeInfo} (hgd : o.guard = none) (ho : o.op = .buildSlice 34 0 #[]) (hi : Try.prog.info? 5 = some i0)
    (h : wpList Try.prog ops Q rest (a.put o.dst (.slice (some ⟨w.heap.size, 0, none⟩) 0 0)) (w.alloc (.cells #[] 5))) : wpList Try.prog ops Q (o :: rest) a w := by
  refine wpList_plain hgd fun K hK => ?_
  unfold Oper.wp execOp
  simp only [ho, Sem.run_bind, List.map_toArray, List.map_nil, run_emptyB w hi, Result.andThen_ok]
  exact hK _ _ h
set_option maxHeartbeats 16000000
set_option maxRecDepth 100000
theorem back_any (m : Msg) (hr : evR m.ev) (sf : ByteArray) (hsf : sf.data.toList = m.flt) (a : Option Addr) (c : Nat) (l : List UInt8) (b : Option Addr) (d : Nat) (hd : l.length ≤ d) (cut : Int) (hcut : -9223372036854775808 ≤ cut ∧ cut ≤ 9223372036854775807) (w : World) (hA : AttsAt w (Old w.heap.size) a m.ev.attrs) (hB : BytesAt w (Old w.heap.size) b l) :
    Calls Try.prog 5 #[.agg #[.int .i64 m.kind, .int .i64 m.sub, .int .i64 m.ver, .int .i64 m.home, .int .i64 m.x1, .int .i64 m.y1, .int .i64 m.x2, .int .i64 m.y2, .string sf, .int .i64 m.ev.pub, .int .u32 (m.ev.seq : Nat), .int .i64 m.ev.x, .int .i64 m.ev.y, .slice a m.ev.attrs.length c], .slice b l.length d, .int .i64 cut] w fun e w' => LawEndB w w' e := by
  obtain ⟨w1, hw1⟩ : ∃ W0 : World, W0 = w.alloc (.cells #[.int .i64 m.kind, .int .i64 m.sub, .int .i64 m.ver, .int .i64 m.home, .int .i64 m.x1, .int .i64 m.y1, .int .i64 m.x2, .int .i64 m.y2, .string sf, .int .i64 m.ev.pub, .int .u32 (m.ev.seq : Nat), .int .i64 m.ev.x, .int .i64 m.ev.y, .slice a m.ev.attrs.length c] 31) := ⟨_, rfl⟩
  have B1 := Lib.hid (show Below w.heap.size w w1 by rw [hw1]; exact below_alloc _ _)
  have X1 := Lib.hid (show Bx w1 none (.bool false) w.heap.size 31 #[.int .i64 m.kind, .int .i64 m.sub, .int .i64 m.ver, .int .i64 m.home, .int .i64 m.x1, .int .i64 m.y1, .int .i64 m.x2, .int .i64 m.y2, .string sf, .int .i64 m.ev.pub, .int .u32 (m.ev.seq : Nat), .int .i64 m.ev.x, .int .i64 m.ev.y, .slice a m.ev.attrs.length c] by rw [hw1]; exact ⟨heap_alloc_new w _, by simp, by simp [Value.ownBlock]⟩)
  have HA := Lib.hid (show ∀ W, Below w1.heap.size w1 W → AttsAt W (Old W.heap.size) a m.ev.attrs from fun W hW => hA.far fun g hg => ⟨Nat.lt_of_lt_of_le hg (Nat.le_trans B1.out.size hW.size), (hW.block g (Nat.lt_of_lt_of_le hg B1.out.size)).trans (B1.out.block g hg)⟩)
  have HB := Lib.hid (show ∀ W, Below w1.heap.size w1 W → BytesAt W (Old W.heap.size) b l from fun W hW => hB.far fun g hg => ⟨Nat.lt_of_lt_of_le hg (Nat.le_trans B1.out.size hW.size), (hW.block g (Nat.lt_of_lt_of_le hg B1.out.size)).trans (B1.out.block g hg)⟩)
  have KEEP := Lib.hid (show ∀ W, Below w1.heap.size w1 W → _ from fun W hW => (X1.out.later hW).c14)
  obtain ⟨n0, hn0⟩ : ∃ n, n = l.length := ⟨_, rfl⟩
  obtain ⟨k, n, hkn⟩ : ∃ k n, readM l = (k, n) := ⟨_, _, rfl⟩
  have CP := Lib.hid (fun W (hW : Below w1.heap.size w1 W) => put_any m hr sf hsf a c W (HA.out W hW))
  have CMm := Lib.hid (fun W (hW : Below w1.heap.size w1 W) => small_any m sf a c W (HA.out W hW))
  have CGB := Lib.hid (fun W (hW : Below w1.heap.size w1 W) => hn0 ▸ get_any b d l W (HB.out W hW) hd)
  have HTB := Lib.hid (fun W (hW : Below w1.heap.size w1 W) => hn0 ▸ run_text b d l W (HB.out W hW))
  have CS := Lib.hid (fun a2 c2 W (hW : Below w1.heap.size w1 W) (hQ : AttsAt W (Old W.heap.size) a2 m.ev.attrs) => msgS_selfB m ▸ same_any m m sf ⟨m.flt.toArray⟩ hsf (by simp) a a2 c c2 W (HA.out W hW) hQ)
  have HKN := Lib.hid hkn
  have HN0 := Lib.hid hn0
  have HR := Lib.hid hr
  have HW := Lib.hid hw1
  have hd0 : n0 ≤ d := by omega
  have h63 : n0 ≤ 9223372036854775807 := by have := hB.1; unfold maxLen at this; omega
  rw [← hn0]
  clear hA hB hw1 hr hsf hkn hn0 hd
  go_enter Try.func5, Try.ntmps5
  go_wp2_with fail
  rw [← HW.out]
  refine Calls.mono (up_any w1) ?_
  rintro x w2 ⟨rfl, hb⟩
  have B2 := Lib.hid hb
  clear hb
  obtain ⟨x0, x1, x2, x3, x4, x5, x6, x7, x8, x9, x10, x11, x12, x13⟩ := KEEP.out _ B2.out
  go_wp2_with fail
  refine Calls.mono (CMm.out _ B2.out) ?_
  rintro x w3 ⟨⟨r, rfl⟩, hb⟩
  have B3 := Lib.hid (B2.out.trans (hb.mono B2.out.size))
  clear hb x0 x1 x2 x3 x4 x5 x6 x7 x8 x9 x10 x11 x12 x13
  obtain ⟨x0, x1, x2, x3, x4, x5, x6, x7, x8, x9, x10, x11, x12, x13⟩ := KEEP.out _ B3.out
  cases r
  · go_wp2_with fail
    go_ret
    exact ⟨rfl, B1.out.trans (B3.out.mono B1.out.size)⟩
  by_cases hlen : (5000 : Int) < (n0 : Int)
  · go_wp2_with fail
    go_ret
    exact ⟨rfl, B1.out.trans (B3.out.mono B1.out.size)⟩
  by_cases hneg : cut < 0
  · go_wp2_with fail
    go_ret
    exact ⟨rfl, B1.out.trans (B3.out.mono B1.out.size)⟩
  go_wp2_with fail
  refine Calls.mono (CP.out _ B3.out) ?_
  rintro x w6 hpe
  obtain ⟨hb, ⟨ht, rfl⟩ | ⟨ht, a1, n1, c1, rfl, hn1, hc1, hby⟩⟩ := hpe.slotsB
  · have B6 := Lib.hid (B3.out.trans (hb.mono B3.out.size))
    clear hb x0 x1 x2 x3 x4 x5 x6 x7 x8 x9 x10 x11 x12 x13 hpe
    obtain ⟨x0, x1, x2, x3, x4, x5, x6, x7, x8, x9, x10, x11, x12, x13⟩ := KEEP.out _ B6.out
    have q0 := Cn.nil_no
    go_wp2_with fail
    clear x0 x1 x2 x3 x4 x5 x6 x7 x8 x9 x10 x11 x12 x13
    obtain ⟨we, hwe⟩ : ∃ W0 : World, W0 = w6 := ⟨_, rfl⟩
    have Be := Lib.hid (show Below w1.heap.size w1 we by rw [hwe]; exact B6.out)
    rw [← hwe]
    clear hwe
    refine Calls.mono (CGB.out _ Be.out) ?_
    rintro x w7 hge
    obtain ⟨a5, c5, rfl, hat, hb⟩ := hge.cells HKN.out
    have B7 := Lib.hid (Be.out.trans (hb.mono Be.out.size))
    have HAT := Lib.hid hat
    clear hge hb hat
    by_cases hk : k = 0
    · subst hk
      obtain ⟨hmb, hpn⟩ := put_read HKN.out
      have HRN := Lib.hid (show evR n.ev by have := read_rng l; rw [HKN.out] at this; exact this)
      rw [show errW 0 = .nilIface from rfl]
      have q5 := neq_nil
      have q6 := Cn.nil_nil
      have q7 := str_eqB
      obtain ⟨w8, hw8⟩ : ∃ W0 : World, W0 = w7.alloc (.cells #[.int .i64 n.kind, .int .i64 n.sub, .int .i64 n.ver, .int .i64 n.home, .int .i64 n.x1, .int .i64 n.y1, .int .i64 n.x2, .int .i64 n.y2, .string ⟨n.flt.toArray⟩, .int .i64 n.ev.pub, .int .u32 (n.ev.seq : Nat), .int .i64 n.ev.x, .int .i64 n.ev.y, .slice a5 n.ev.attrs.length c5] 31) := ⟨_, rfl⟩
      have B8 := Lib.hid (show Below w1.heap.size w1 w8 by rw [hw8]; exact B7.out.alloc B7.out.size _)
      have AT8 := Lib.hid (show AttsAt w8 (Old w8.heap.size) a5 n.ev.attrs from HAT.out.far fun g hg => by rw [hw8]; exact ⟨by have : g < w7.heap.size := hg; unfold Old; simp; omega, Below.heap_alloc _ _ _ hg⟩)
      have CPn := Lib.hid (put_any n HRN.out ⟨n.flt.toArray⟩ (by simp) a5 c5 w8 AT8.out)
      have HW8 := Lib.hid hw8
      have HPN := Lib.hid hpn
      have HMB := Lib.hid hmb
      clear hw8 hpn hmb
      go_wp2_with fail
      rw [← HW8.out]
      refine Calls.mono CPn.out ?_
      rintro x w9 hpe
      obtain ⟨hb9, ⟨hf, rfl⟩ | ⟨-, a9, n9, c9, rfl, hn9, -, hby9⟩⟩ := hpe.slotsB
      · rw [HMB.out] at hf
        cases hf
      have B9 := Lib.hid (B8.out.trans (hb9.mono B8.out.size))
      rw [HPN.out, ← HN0.out] at hn9
      have t9 := run_text a9 c9 (putM n) w9 hby9
      rw [HPN.out, ← HN0.out] at t9
      have tb := HTB.out _ B9.out
      clear hpe hb9 hby9
      go_wp2_with fail
      go_ret
      exact ⟨rfl, B1.out.trans (B9.out.mono B1.out.size)⟩
    · obtain rfl := read_bad HKN.out hk
      have q5 := neq_err ((k : Nat) : Int)
      rw [show errW k = .iface 40 (.int .i64 (k : Nat)) by unfold errW; rw [if_neg hk]]
      obtain ⟨w8, hw8⟩ : ∃ W0 : World, W0 = w7.alloc (.cells #[.int .i64 0, .int .i64 0, .int .i64 0, .int .i64 0, .int .i64 0, .int .i64 0, .int .i64 0, .int .i64 0, .string ⟨#[]⟩, .int .i64 0, .int .u32 0, .int .i64 0, .int .i64 0, .slice a5 0 c5] 31) := ⟨_, rfl⟩
      have B8 := Lib.hid (show Below w1.heap.size w1 w8 by rw [hw8]; exact B7.out.alloc B7.out.size _)
      have HW8 := Lib.hid hw8
      clear hw8
      go_wp2_with fail
      go_ret
      have hend := B1.out.trans (B8.out.mono B1.out.size)
      rw [HW8.out] at hend
      exact ⟨rfl, hend⟩
  · have B6 := Lib.hid (B3.out.trans (hb.mono B3.out.size))
    have HX := Lib.hid (show ∀ W, Below w6.heap.size w6 W → BytesAt W (Old W.heap.size) a1 (putM m) from fun W hW => hby.far fun g hg => ⟨Nat.lt_of_lt_of_le hg hW.size, hW.block g hg⟩)
    have HN1 := Lib.hid hn1
    have HC1 := Lib.hid hc1
    have HT := Lib.hid ht
    clear hb x0 x1 x2 x3 x4 x5 x6 x7 x8 x9 x10 x11 x12 x13 hpe hby hn1 hc1 ht
    obtain ⟨x0, x1, x2, x3, x4, x5, x6, x7, x8, x9, x10, x11, x12, x13⟩ := KEEP.out _ B6.out
    have CG1 := Lib.hid (get_any a1 c1 (putM m) w6 (HX.out _ (Below.refl _ _)) (by have := HN1.out; have := HC1.out; omega))
    rw [← HN1.out] at CG1
    have q0 := Cn.nil_nil
    go_wp2_with fail
    refine Calls.mono CG1.out ?_
    rintro x w7 hge
    obtain ⟨a2, c2, rfl, hat, hb⟩ := hge.cells (read_put HT.out HR.out)
    have B7 := Lib.hid (B6.out.trans (hb.mono B6.out.size))
    have X67 := Lib.hid (show Below w6.heap.size w6 w7 from hb)
    have HAT := Lib.hid hat
    clear hge hb hat x0 x1 x2 x3 x4 x5 x6 x7 x8 x9 x10 x11 x12 x13
    obtain ⟨w8, hw8⟩ : ∃ W0 : World, W0 = w7.alloc (.cells #[.int .i64 m.kind, .int .i64 m.sub, .int .i64 m.ver, .int .i64 m.home, .int .i64 m.x1, .int .i64 m.y1, .int .i64 m.x2, .int .i64 m.y2, .string ⟨m.flt.toArray⟩, .int .i64 m.ev.pub, .int .u32 (m.ev.seq : Nat), .int .i64 m.ev.x, .int .i64 m.ev.y, .slice a2 m.ev.attrs.length c2] 31) := ⟨_, rfl⟩
    have B8 := Lib.hid (show Below w1.heap.size w1 w8 by rw [hw8]; exact B7.out.alloc B7.out.size _)
    have X68 := Lib.hid (show Below w6.heap.size w6 w8 by rw [hw8]; exact X67.out.alloc X67.out.size _)
    have AT8 := Lib.hid (show AttsAt w8 (Old w8.heap.size) a2 m.ev.attrs from HAT.out.far fun g hg => by rw [hw8]; exact ⟨by have : g < w7.heap.size := hg; unfold Old; simp; omega, Below.heap_alloc _ _ _ hg⟩)
    have Y8 := Lib.hid (show Bx w8 none (.bool false) w7.heap.size 31 #[.int .i64 m.kind, .int .i64 m.sub, .int .i64 m.ver, .int .i64 m.home, .int .i64 m.x1, .int .i64 m.y1, .int .i64 m.x2, .int .i64 m.y2, .string ⟨m.flt.toArray⟩, .int .i64 m.ev.pub, .int .u32 (m.ev.seq : Nat), .int .i64 m.ev.x, .int .i64 m.ev.y, .slice a2 m.ev.attrs.length c2] by rw [hw8]; exact ⟨heap_alloc_new _ _, by simp, by simp [Value.ownBlock]⟩)
    have HW8 := Lib.hid hw8
    rw [show errW 0 = .nilIface from rfl]
    have q5 := neq_nil
    obtain ⟨x0, x1, x2, x3, x4, x5, x6, x7, x8, x9, x10, x11, x12, x13⟩ := KEEP.out _ B8.out
    obtain ⟨y0, y1, y2, y3, y4, y5, y6, y7, y8, y9, y10, y11, y12, y13⟩ := Y8.out.c14
    have CS8 := Lib.hid (CS.out a2 c2 w8 B8.out AT8.out)
    have hlt7 : w.heap.size < w7.heap.size := by have := X1.out.lt; have := B7.out.size; omega
    have hne7 : ¬ w.heap.size = w7.heap.size := by omega
    have hne7' : ¬ w7.heap.size = w.heap.size := by omega
    rw [hw8] at x0 x1 x2 x3 x4 x5 x6 x7 x8 x9 x10 x11 x12 x13 y0 y1 y2 y3 y4 y5 y6 y7 y8 y9 y10 y11 y12 y13
    clear hw8
    go_wp2_with fail
    rw [← HW8.out]
    refine Calls.mono CS8.out ?_
    rintro x w9 ⟨rfl, hb⟩
    have B9 := Lib.hid (B8.out.trans (hb.mono B8.out.size))
    have X69 := Lib.hid (X68.out.trans (hb.mono X68.out.size))
    clear hb x0 x1 x2 x3 x4 x5 x6 x7 x8 x9 x10 x11 x12 x13 y0 y1 y2 y3 y4 y5 y6 y7 y8 y9 y10 y11 y12 y13 hlt7 hne7 hne7'
    have hp : 0 < n1 := by rw [HN1.out]; exact put_pos
    have hz : ((n1 : Int) == 0) = false := by rw [beq_eq_false_iff_ne]; omega
    have hz' : ¬ (n1 : Int) = 0 := by omega
    obtain ⟨kk, hkk, hkl⟩ : ∃ kk : Nat, Int.tmod cut (n1 : Int) = (kk : Int) ∧ kk < n1 := by
      have h1 : 0 ≤ cut % (n1 : Int) := Int.emod_nonneg _ (by omega)
      have h2 : cut % (n1 : Int) < (n1 : Int) := Int.emod_lt_of_pos _ (by omega)
      exact ⟨(cut % (n1 : Int)).toNat, by rw [Int.tmod_eq_emod_of_nonneg (by omega)]; omega, by omega⟩
    have h64 : n1 ≤ 9223372036854775807 := by rw [HN1.out]; have := putM_len m HT.out HR.out; omega
    have HKL := Lib.hid hkl
    have q8 := fun W => run_front a1 n1 c1 kk (by have := HKL.out; have := HC1.out; omega) W
    have CG2 := Lib.hid (get_any (front a1 c1) c1 ((putM m).take kk) w9 ((HX.out _ X69.out).take (by have := HN1.out; have := HKL.out; omega)) (by rw [List.length_take]; have := HN1.out; have := HC1.out; omega))
    rw [show ((putM m).take kk).length = kk by rw [List.length_take]; have := HN1.out; have := HKL.out; omega] at CG2
    clear hkl
    go_wp2_with fail
    refine Calls.mono CG2.out ?_
    rintro x w10 hge
    obtain ⟨a3, c3, rfl, hb⟩ := hge.none (read_cut HT.out HR.out (by have := HN1.out; have := HKL.out; omega)) (by omega)
    have B10 := Lib.hid (B9.out.trans (hb.mono B9.out.size))
    have X60 := Lib.hid (X69.out.trans (hb.mono X69.out.size))
    clear hge hb
    obtain ⟨w11, hw11⟩ : ∃ W0 : World, W0 = w10.alloc (.cells #[.int .i64 0, .int .i64 0, .int .i64 0, .int .i64 0, .int .i64 0, .int .i64 0, .int .i64 0, .int .i64 0, .string ⟨#[]⟩, .int .i64 0, .int .u32 0, .int .i64 0, .int .i64 0, .slice a3 0 c3] 31) := ⟨_, rfl⟩
    have B11 := Lib.hid (show Below w1.heap.size w1 w11 by rw [hw11]; exact B10.out.alloc B10.out.size _)
    have X61 := Lib.hid (show Below w6.heap.size w6 w11 by rw [hw11]; exact X60.out.alloc X60.out.size _)
    obtain ⟨z, hz11⟩ : ∃ z, z = w11.heap.size := ⟨_, rfl⟩
    obtain ⟨w12, hw12⟩ : ∃ W0 : World, W0 = w11.alloc (.cells #[] 5) := ⟨_, rfl⟩
    have Z12 := Lib.hid (show Below z w11 w12 by rw [hw12, hz11]; exact below_alloc _ _)
    have O12 := Lib.hid (show OB w12 z (.slice (some ⟨w11.heap.size, 0, none⟩) 0 0) [] by rw [hw12, hz11]; exact ⟨rfl, Or.inr ⟨w11.heap.size, 0, #[], rfl, Nat.le_refl _, heap_alloc_new w11 _, Nat.le_refl _, Nat.zero_le _, rfl, rfl⟩⟩)
    have HW11 := Lib.hid hw11
    have HW12 := Lib.hid hw12
    have HZ := Lib.hid hz11
    have X62 := Lib.hid (show Below w6.heap.size w6 w12 from X61.out.trans (Z12.out.mono (by rw [HZ.out]; exact X61.out.size)))
    have NX := Lib.hid ((HX.out _ X62.out))
    obtain ⟨i0, hi, hi2⟩ := Option.map_eq_some_iff.1 infoB
    simp only [Prod.mk.injEq] at hi2
    obtain ⟨hz0, hz1, hz2⟩ := hi2
    obtain ⟨g1, o1, rfl, hg1, hcl1⟩ := NX.out.2 (by rw [← HN1.out]; exact hp)
    have NC1 := Lib.hid (show ∀ j u, (byC (putM m))[j]? = some u → w12.cell? ((⟨g1, o1, none⟩ : Addr).add j) = some u by
      intro j u hu
      obtain ⟨hj, rfl⟩ := List.getElem?_eq_some_iff.1 hu
      simp only [byC, List.length_map] at hj
      rw [show ((⟨g1, o1, none⟩ : Addr).add j) = ⟨g1, o1 + j, none⟩ by unfold Addr.add; split <;> simp_all, hcl1 j hj]
      simp [byC])
    have HPL := Lib.hid (show n1 ≤ 9000 by rw [HN1.out]; exact putM_len m HT.out HR.out)
    have HS12 := Lib.hid (show z ≤ w12.heap.size by rw [HZ.out]; exact Z12.out.size)
    clear hw11 hw12 hz11 hcl1 hg1
    go_wp2_with (first
      | (refine wpList_emptyB rfl rfl hi ?_; rw [← HW11.out, ← HW12.out])
      | (at_builtin; refine wpList_append_own_at _ rfl _ _ 34 rfl z 5 i0 (.int .u8 0) 1 1 Try.underlying34 hi hz0 hz1 hz2 rfl (by decide) _ _ _ rfl O12.out ⟨g1, o1, none⟩ n1 c1 (byC (putM m)) rfl (by have := HN1.out; simp [byC]; omega) NC1.out (one_bytes _) (by have := HPL.out; unfold maxLen; simp; omega) (by have := HPL.out; simp; omega) HS12.out ?_; intro v' w13 hrow13 hg13 hn13 hat13; obtain ⟨a13, n13, k13, e13⟩ := own_slice hrow13; subst e13
         have O13 := Lib.hid (show OB w13 z (.slice a13 n13 k13) (putM m) by unfold OB; rw [← HN1.out]; simpa [byC] using hrow13)
         have Z13 := Lib.hid (show Below z w11 w13 from below_grown Z12.out HS12.out hg13 (fun k hk => by rw [HZ.out]; cases hk; exact Nat.le_refl _))
         obtain ⟨w14, hw14⟩ : ∃ W0 : World, W0 = w13.alloc (.cells #[.int .u8 0] 5) := ⟨_, rfl⟩
         have HS13 := Lib.hid (show z ≤ w13.heap.size from Nat.le_trans HS12.out hg13.size)
         have O14 := Lib.hid (show OB w14 z (.slice a13 n13 k13) (putM m) by rw [hw14]; exact O13.out.later (below_alloc _ _))
         have Z14 := Lib.hid (show Below z w11 w14 by rw [hw14]; exact Z13.out.alloc HS13.out _)
         have HS14 := Lib.hid (show z ≤ w14.heap.size by rw [hw14]; simp; have := HS13.out; omega)
         have N14 := Lib.hid (show ∀ j u, [Value.int .u8 0][j]? = some u → w14.cell? ((⟨w13.heap.size, 0, none⟩ : Addr).add j) = some u by rw [hw14]; exact new_byte w13 _ _)
         have HW14 := Lib.hid hw14
         clear hw14 hrow13 hg13 hn13 hat13)
      | (at_builtin; rw [← HW14.out]; refine wpList_append_own_at _ rfl _ _ 34 rfl z 5 i0 (.int .u8 0) 1 1 Try.underlying34 hi hz0 hz1 hz2 rfl (by decide) _ _ _ rfl O14.out ⟨w13.heap.size, 0, none⟩ 1 1 [.int .u8 0] rfl rfl N14.out (one_byte _) (by have := HPL.out; have := HN1.out; unfold maxLen; omega) (by have := HPL.out; have := HN1.out; omega) HS14.out ?_; intro v'' w15 hrow15 hg15 hn15 hat15; obtain ⟨a15, n15, k15, e15⟩ := own_slice hrow15; subst e15))
    have O15 := Lib.hid (show OB w15 z (.slice a15 n15 k15) (putM m ++ [0]) by unfold OB; rw [List.length_append, byC_app]; exact hrow15)
    have Z15 := Lib.hid (show Below z w11 w15 from below_grown Z14.out HS14.out hg15 (fun k hk => (O14.out.lt hk).1))
    have B15 := Lib.hid (show Below w1.heap.size w1 w15 from B11.out.trans (Z15.out.mono (by rw [HZ.out]; exact B11.out.size)))
    obtain ⟨hn15', hk15, hby15⟩ := O15.out.bytes
    have CG3 := Lib.hid (get_any a15 k15 (putM m ++ [0]) w15 (hby15.far fun g hg => ⟨hg.2, rfl⟩) hk15)
    rw [← hn15'] at CG3
    clear hrow15 hg15 hn15 hat15 hn15' hk15 hby15
    go_wp2_with fail
    refine Calls.mono CG3.out ?_
    rintro x w16 hge
    obtain ⟨a6, c6, rfl, hb⟩ := hge.none (read_more HT.out HR.out 0 []) (by omega)
    have B16 := Lib.hid (B15.out.trans (hb.mono B15.out.size))
    clear hge hb
    obtain ⟨w17, hw17⟩ : ∃ W0 : World, W0 = w16.alloc (.cells #[.int .i64 0, .int .i64 0, .int .i64 0, .int .i64 0, .int .i64 0, .int .i64 0, .int .i64 0, .int .i64 0, .string ⟨#[]⟩, .int .i64 0, .int .u32 0, .int .i64 0, .int .i64 0, .slice a6 0 c6] 31) := ⟨_, rfl⟩
    have B17 := Lib.hid (show Below w1.heap.size w1 w17 by rw [hw17]; exact B16.out.alloc B16.out.size _)
    have HW17 := Lib.hid hw17
    have q9 := neq_codes 6 6
    have q10 := neq_codes 7 7
    clear hw17
    go_wp2_with fail
    rw [← HW17.out]
    obtain ⟨we, hwe⟩ : ∃ W0 : World, W0 = w17 := ⟨_, rfl⟩
    have Be := Lib.hid (show Below w1.heap.size w1 we by rw [hwe]; exact B17.out)
    rw [← hwe]
    clear hwe
    refine Calls.mono (CGB.out _ Be.out) ?_
    rintro x w7 hge
    obtain ⟨a5, c5, rfl, hat, hb⟩ := hge.cells HKN.out
    have B7 := Lib.hid (Be.out.trans (hb.mono Be.out.size))
    have HAT := Lib.hid hat
    clear hge hb hat
    by_cases hk : k = 0
    · subst hk
      obtain ⟨hmb, hpn⟩ := put_read HKN.out
      have HRN := Lib.hid (show evR n.ev by have := read_rng l; rw [HKN.out] at this; exact this)
      rw [show errW 0 = .nilIface from rfl]
      have q5 := neq_nil
      have q6 := Cn.nil_nil
      have q7 := str_eqB
      obtain ⟨w8, hw8⟩ : ∃ W0 : World, W0 = w7.alloc (.cells #[.int .i64 n.kind, .int .i64 n.sub, .int .i64 n.ver, .int .i64 n.home, .int .i64 n.x1, .int .i64 n.y1, .int .i64 n.x2, .int .i64 n.y2, .string ⟨n.flt.toArray⟩, .int .i64 n.ev.pub, .int .u32 (n.ev.seq : Nat), .int .i64 n.ev.x, .int .i64 n.ev.y, .slice a5 n.ev.attrs.length c5] 31) := ⟨_, rfl⟩
      have B8 := Lib.hid (show Below w1.heap.size w1 w8 by rw [hw8]; exact B7.out.alloc B7.out.size _)
      have AT8 := Lib.hid (show AttsAt w8 (Old w8.heap.size) a5 n.ev.attrs from HAT.out.far fun g hg => by rw [hw8]; exact ⟨by have : g < w7.heap.size := hg; unfold Old; simp; omega, Below.heap_alloc _ _ _ hg⟩)
      have CPn := Lib.hid (put_any n HRN.out ⟨n.flt.toArray⟩ (by simp) a5 c5 w8 AT8.out)
      have HW8 := Lib.hid hw8
      have HPN := Lib.hid hpn
      have HMB := Lib.hid hmb
      clear hw8 hpn hmb
      go_wp2_with fail
      rw [← HW8.out]
      refine Calls.mono CPn.out ?_
      rintro x w9 hpe
      obtain ⟨hb9, ⟨hf, rfl⟩ | ⟨-, a9, n9, c9, rfl, hn9, -, hby9⟩⟩ := hpe.slotsB
      · rw [HMB.out] at hf
        cases hf
      have B9 := Lib.hid (B8.out.trans (hb9.mono B8.out.size))
      rw [HPN.out, ← HN0.out] at hn9
      have t9 := run_text a9 c9 (putM n) w9 hby9
      rw [HPN.out, ← HN0.out] at t9
      have tb := HTB.out _ B9.out
      clear hpe hb9 hby9
      go_wp2_with fail
      go_ret
      exact ⟨rfl, B1.out.trans (B9.out.mono B1.out.size)⟩
    · obtain rfl := read_bad HKN.out hk
      have q5 := neq_err ((k : Nat) : Int)
      rw [show errW k = .iface 40 (.int .i64 (k : Nat)) by unfold errW; rw [if_neg hk]]
      obtain ⟨w8, hw8⟩ : ∃ W0 : World, W0 = w7.alloc (.cells #[.int .i64 0, .int .i64 0, .int .i64 0, .int .i64 0, .int .i64 0, .int .i64 0, .int .i64 0, .int .i64 0, .string ⟨#[]⟩, .int .i64 0, .int .u32 0, .int .i64 0, .int .i64 0, .slice a5 0 c5] 31) := ⟨_, rfl⟩
      have B8 := Lib.hid (show Below w1.heap.size w1 w8 by rw [hw8]; exact B7.out.alloc B7.out.size _)
      have HW8 := Lib.hid hw8
      clear hw8
      go_wp2_with fail
      go_ret
      have hend := B1.out.trans (B8.out.mono B1.out.size)
      rw [HW8.out] at hend
      exact ⟨rfl, hend⟩
end Go.Proofs.Ytndgbdbjmogioaa.Wi
