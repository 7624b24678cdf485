/-
  The statement WireGets holds: bytes read as the document reads them (P10.2). For every input; no condition. (Six texts in one.)
-/
import Derived.Test.YtndgbdbjmogioaaFlOpen
import Derived.Test.YtndgbdbjmogioaaWiRd
import Derived.Test.YtndgbdbjmogioaaWiPut
import Derived.Test.YtndgbdbjmogioaaWiGet
import Derived.Test.YtndgbdbjmogioaaWiSame
import Derived.Test.YtndgbdbjmogioaaWiGetR0a
import Derived.Test.YtndgbdbjmogioaaWiGetR0b
import Derived.Test.YtndgbdbjmogioaaWiGetR1
import Derived.Test.YtndgbdbjmogioaaWiGetR2
import Derived.Test.YtndgbdbjmogioaaWiGetR3
import Derived.Test.YtndgbdbjmogioaaWiGetR4
import Derived.Test.YtndgbdbjmogioaaCodeN
import Derived.Test.YtndgbdbjmogioaaRows
import Derived.WalkKit
import Derived.ProofKit
import Derived.OpenShut
import Derived.ChangeOld
import Derived.Below
import Derived.ChangeSame
import Derived.JoinedOf
import Derived.JoinedAt
import Derived.Lib.SmallJoins
import Derived.JoinedCond
namespace Go.Proofs.Ytndgbdbjmogioaa.Wi
open Go.RowKit Go.ChangeShapes Go.WideShapes Go.Deep Go.Joins Go.Proofs.Ytndgbdbjmogioaa.Fl
set_option linter.unusedVariables false
set_option linter.unusedSectionVars false
section
variable {H : Type} {enc : TypeId × Value → H} {P : Program} {w : World} {base b0 : Nat} {spare : Nat → Bool} {held : Bool} {r : Reach} {v : Value} {d : DataW H} {p : List MemPlace}
/-- What the program's types are. -/
structure MTypes (P : Program) (tM tA tVs : TypeId) (m0 m1 m2 m3 m4 m5 m6 r0 r1 r2 r3 e0 e1 e2 e3 p0 p1 a0 a1 a2 a3 : Field) : Prop where
  msg : P.underlying tM = some (.struct #[m0, m1, m2, m3, m4, m5, m6])
  mcells : P.cellsOf tM = 14
  moff : m0.offset = 0 ∧ m1.offset = 1 ∧ m2.offset = 2 ∧ m3.offset = 3 ∧ m4.offset = 4 ∧ m5.offset = 8 ∧ m6.offset = 9
  mone : P.cellsOf m0.type = 1 ∧ P.cellsOf m1.type = 1 ∧ P.cellsOf m2.type = 1 ∧ P.cellsOf m3.type = 1 ∧ P.cellsOf m4.type = 4 ∧ P.cellsOf m5.type = 1 ∧ P.cellsOf m6.type = 5
  u0 : P.underlying m0.type = some (.int .i64)
  u1 : P.underlying m1.type = some (.int .i64)
  u2 : P.underlying m2.type = some (.int .i64)
  u3 : P.underlying m3.type = some (.int .i64)
  u5 : P.underlying m5.type = some .string
  rect : P.underlying m4.type = some (.struct #[r0, r1, r2, r3])
  rone : oneCellFields P #[r0, r1, r2, r3] = true
  q0 : P.underlying r0.type = some (.int .i64)
  q1 : P.underlying r1.type = some (.int .i64)
  q2 : P.underlying r2.type = some (.int .i64)
  q3 : P.underlying r3.type = some (.int .i64)
  event : P.underlying m6.type = some (.struct #[e0, e1, e2, e3])
  eoff : e0.offset = 0 ∧ e1.offset = 1 ∧ e2.offset = 2 ∧ e3.offset = 4
  eone : P.cellsOf e0.type = 1 ∧ P.cellsOf e1.type = 1 ∧ P.cellsOf e2.type = 2 ∧ P.cellsOf e3.type = 1
  x0 : P.underlying e0.type = some (.int .i64)
  x1 : P.underlying e1.type = some (.int .u32)
  point : P.underlying e2.type = some (.struct #[p0, p1])
  pone : oneCellFields P #[p0, p1] = true
  y0 : P.underlying p0.type = some (.int .i64)
  y1 : P.underlying p1.type = some (.int .i64)
  t3 : e3.type = tVs
  vals : P.underlying tVs = some (.slice tA)
  attr : P.underlying tA = some (.struct #[a0, a1, a2, a3])
  acells : P.cellsOf tA = 4
  aone : oneCellFields P #[a0, a1, a2, a3] = true
  w0 : P.underlying a0.type = some .string
  w1 : P.underlying a1.type = some .bool
  w2 : P.underlying a2.type = some (.int .i64)
  w3 : P.underlying a3.type = some .string
variable {tM tA tVs : TypeId} {m0 m1 m2 m3 m4 m5 m6 r0 r1 r2 r3 e0 e1 e2 e3 p0 p1 a0 a1 a2 a3 : Field}
theorem open_att' (T : MTypes P tM tA tVs m0 m1 m2 m3 m4 m5 m6 r0 r1 r2 r3 e0 e1 e2 e3 p0 p1 a0 a1 a2 a3) {fuel : Nat} {cs : List Value} {x : DataW H × List MemPlace} (h : DataW.trod enc P w base spare held fuel tA cs = some x) : ∃ v : Att, cs = attC v ∧ attOk v := by
  obtain ⟨y0, y1, y2, y3, n, _, hl, h0, h1, h2, h3⟩ := trod_struct4 T.attr h
  obtain ⟨o0, k0⟩ := hone_of T.aone 0 a0 rfl
  obtain ⟨o1, k1⟩ := hone_of T.aone 1 a1 rfl
  obtain ⟨o2, k2⟩ := hone_of T.aone 2 a2 rfl
  obtain ⟨o3, k3⟩ := hone_of T.aone 3 a3 rfl
  obtain ⟨c0, c1, c2, c3, rfl⟩ := list4 (hl.trans T.acells)
  obtain ⟨s0, e0, _, z0⟩ := DataW.trod_string T.w0 h0
  obtain ⟨b1, e1, _⟩ := DataW.trod_bool T.w1 h1
  obtain ⟨n2, e2, _, z2⟩ := DataW.trod_int T.w2 h2
  obtain ⟨s3, e3, _, z3⟩ := DataW.trod_string T.w3 h3
  simp [o0, k0] at e0
  simp [o1, k1] at e1
  simp [o2, k2] at e2
  simp [o3, k3] at e3
  subst e0 e1 e2 e3
  refine ⟨⟨s0.data.toList, b1, n2, s3.data.toList⟩, ?_, by rw [size_list]; exact z0, by rw [size_list]; exact z3, bounds_i64 z2⟩
  simp only [attC, bs_list]
theorem open_atts' (T : MTypes P tM tA tVs m0 m1 m2 m3 m4 m5 m6 r0 r1 r2 r3 e0 e1 e2 e3 p0 p1 a0 a1 a2 a3) {fuel : Nat} {cs : List Value} {x : DataW H × List MemPlace} (h : DataW.trod enc P w base spare held fuel tVs cs = some x) :
    ∃ (vs : List Att) (a : Option Addr) (c : Nat), cs = [.slice a vs.length c] ∧ AttsAt w (Old w.heap.size) a vs := by
  obtain ⟨l, a, c, e, hm, hc⟩ := open_elems (α := Att) (Q := fun _ v cs' => cs' = attC v ∧ attOk v) T.vals T.acells h (fun m _ i cs' x' h' => open_att' T h') (by omega) (fun i v cs' hq => by rw [hq.1]; rfl)
  refine ⟨l, a, c, e, hm, fun v hv => ?_, fun h0 => ?_⟩
  · obtain ⟨k, hk, rfl⟩ := List.getElem_of_mem hv
    obtain ⟨g, o, _, _, hq⟩ := hc (by omega)
    obtain ⟨cs', ⟨_, h2⟩, _⟩ := hq k hk
    exact h2
  · obtain ⟨g, o, e, hg, hq⟩ := hc h0
    refine ⟨g, o, e, hg, fun k hk => ?_⟩
    obtain ⟨cs', ⟨rfl, h2⟩, h3⟩ := hq k hk
    exact ⟨by simpa [attC] using h3 0 (by omega), by simpa [attC] using h3 1 (by omega), by simpa [attC] using h3 2 (by omega), by simpa [attC] using h3 3 (by omega)⟩
theorem list14 {cs : List Value} (h : cs.length = 14) : ∃ c0 c1 c2 c3 c4 c5 c6 c7 c8 c9 c10 c11 c12 c13, cs = [c0, c1, c2, c3, c4, c5, c6, c7, c8, c9, c10, c11, c12, c13] := by
  match cs, h with
  | [c0, c1, c2, c3, c4, c5, c6, c7, c8, c9, c10, c11, c12, c13], _ => exact ⟨c0, c1, c2, c3, c4, c5, c6, c7, c8, c9, c10, c11, c12, c13, rfl⟩
/-- A message's fourteen cells. -/
theorem open_msg_cells (T : MTypes P tM tA tVs m0 m1 m2 m3 m4 m5 m6 r0 r1 r2 r3 e0 e1 e2 e3 p0 p1 a0 a1 a2 a3) {fuel : Nat} {cs : List Value} {x : DataW H × List MemPlace} (h : DataW.trod enc P w base spare held fuel tM cs = some x) :
    ∃ (m : Msg) (sf : ByteArray) (a : Option Addr) (c : Nat), cs = [.int .i64 m.kind, .int .i64 m.sub, .int .i64 m.ver, .int .i64 m.home, .int .i64 m.x1, .int .i64 m.y1, .int .i64 m.x2, .int .i64 m.y2, .string sf, .int .i64 m.ev.pub, .int .u32 (m.ev.seq : Nat), .int .i64 m.ev.x, .int .i64 m.ev.y, .slice a m.ev.attrs.length c] ∧ sf.data.toList = m.flt ∧ evR m.ev ∧ AttsAt w (Old w.heap.size) a m.ev.attrs := by
  obtain ⟨xs, n, rfl, _, hl, hlen, hf⟩ := DataW.trod_struct T.msg h
  obtain ⟨o0, o1, o2, o3, o4, o5, o6⟩ := T.moff
  obtain ⟨k0, k1, k2, k3, k4, k5, k6⟩ := T.mone
  obtain ⟨c0, c1, c2, c3, c4, c5, c6, c7, c8, c9, c10, c11, c12, c13, rfl⟩ := list14 (hl.trans T.mcells)
  have g := fun i (f : Field) (hi : #[m0, m1, m2, m3, m4, m5, m6][i]? = some f) => hf i f hi
  have hxl : xs.length = 7 := hlen
  have g0 := g 0 m0 rfl
  have g1 := g 1 m1 rfl
  have g2 := g 2 m2 rfl
  have g3 := g 3 m3 rfl
  have g4 := g 4 m4 rfl
  have g5 := g 5 m5 rfl
  have g6 := g 6 m6 rfl
  rw [List.getElem?_eq_getElem (by omega)] at g0 g1 g2 g3 g4 g5 g6
  clear g hf h
  rw [o0, k0] at g0
  rw [o1, k1] at g1
  rw [o2, k2] at g2
  rw [o3, k3] at g3
  rw [o4, k4] at g4
  rw [o5, k5] at g5
  rw [o6, k6] at g6
  simp only [List.drop_zero, List.drop_succ_cons, List.take_succ_cons, List.take_zero] at g0 g1 g2 g3 g4 g5 g6
  obtain ⟨n0, j0, _, z0⟩ := DataW.trod_int T.u0 g0
  obtain ⟨n1, j1, _, z1⟩ := DataW.trod_int T.u1 g1
  obtain ⟨n2, j2, _, z2⟩ := DataW.trod_int T.u2 g2
  obtain ⟨n3, j3, _, z3⟩ := DataW.trod_int T.u3 g3
  obtain ⟨s5, j5, _, z5⟩ := DataW.trod_string T.u5 g5
  simp only [List.cons.injEq, and_true] at j0 j1 j2 j3 j5
  obtain ⟨y0, y1, y2, y3, nr, _, hlr, h0, h1, h2, h3⟩ := trod_struct4 T.rect g4
  obtain ⟨q0, l0⟩ := hone_of T.rone 0 r0 rfl
  obtain ⟨q1, l1⟩ := hone_of T.rone 1 r1 rfl
  obtain ⟨q2, l2⟩ := hone_of T.rone 2 r2 rfl
  obtain ⟨q3, l3⟩ := hone_of T.rone 3 r3 rfl
  obtain ⟨i0, f0, _, -⟩ := DataW.trod_int T.q0 h0
  obtain ⟨i1, f1, _, -⟩ := DataW.trod_int T.q1 h1
  obtain ⟨i2, f2, _, -⟩ := DataW.trod_int T.q2 h2
  obtain ⟨i3, f3, _, -⟩ := DataW.trod_int T.q3 h3
  simp [q0, l0] at f0
  simp [q1, l1] at f1
  simp [q2, l2] at f2
  simp [q3, l3] at f3
  clear h0 h1 h2 h3 g0 g1 g2 g3 g4 g5
  obtain ⟨ys, ne, rfl, _, hle, hylen, hfe⟩ := DataW.trod_struct T.event g6
  obtain ⟨o0', o1', o2', o3'⟩ := T.eoff
  obtain ⟨k0', k1', k2', k3'⟩ := T.eone
  have g := fun i (f : Field) (hi : #[e0, e1, e2, e3][i]? = some f) => hfe i f hi
  have hyl : ys.length = 4 := hylen
  have g0 := g 0 e0 rfl
  have g1 := g 1 e1 rfl
  have g2 := g 2 e2 rfl
  have g3 := g 3 e3 rfl
  rw [List.getElem?_eq_getElem (by omega)] at g0 g1 g2 g3
  clear g hfe g6
  rw [o0', k0'] at g0
  rw [o1', k1'] at g1
  rw [o2', k2'] at g2
  rw [o3', k3', T.t3] at g3
  simp only [List.drop_zero, List.drop_succ_cons, List.take_succ_cons, List.take_zero] at g0 g1 g2 g3
  obtain ⟨n9, j9, _, z9⟩ := DataW.trod_int T.x0 g0
  obtain ⟨n10, j10, _, z10⟩ := DataW.trod_int T.x1 g1
  obtain ⟨atts, a, c, j13, hA⟩ := open_atts' T g3
  simp only [List.cons.injEq, and_true] at j9 j10 j13
  obtain ⟨zs, np, rfl, _, hlp, hzlen, hfp⟩ := DataW.trod_struct T.point g2
  obtain ⟨q0', l0'⟩ := hone_of T.pone 0 p0 rfl
  obtain ⟨q1', l1'⟩ := hone_of T.pone 1 p1 rfl
  have hzl : zs.length = 2 := hzlen
  have b0' := hfp 0 p0 rfl
  have b1' := hfp 1 p1 rfl
  rw [List.getElem?_eq_getElem (by omega)] at b0' b1'
  obtain ⟨n11, j11, _, -⟩ := DataW.trod_int T.y0 b0'
  obtain ⟨n12, j12, _, -⟩ := DataW.trod_int T.y1 b1'
  simp [q0', l0'] at j11
  simp [q1', l1'] at j12
  subst j0 j1 j2 j3 j5 j9 j10 j13 f0 f1 f2 f3 j11 j12
  have hu : 0 ≤ n10 ∧ n10 ≤ 4294967295 := by
    have h1 : IntKind.u32.min = 0 := rfl
    have h2 : IntKind.u32.max = 4294967295 := rfl
    simp only [Lit.wf, Bool.and_eq_true, decide_eq_true_eq] at z10
    omega
  refine ⟨⟨n0, n1, n2, n3, i0, i1, i2, i3, s5.data.toList, ⟨n9, n10.toNat, n11, n12, atts⟩⟩, s5, a, c, ?_, rfl, ⟨by show n10.toNat ≤ 4294967295; omega, fun v hv => (hA.2.1 v hv).2.2⟩, hA⟩
  simp only
  rw [show ((n10.toNat : Nat) : Int) = n10 by omega]
theorem open_msg (T : MTypes P tM tA tVs m0 m1 m2 m3 m4 m5 m6 r0 r1 r2 r3 e0 e1 e2 e3 p0 p1 a0 a1 a2 a3) (hv : Value.okWide P w r b0 tM v) (h : DataW.Trod enc P w base spare held tM v d p) :
    ∃ (m : Msg) (sf : ByteArray) (a : Option Addr) (c : Nat), v = .agg #[.int .i64 m.kind, .int .i64 m.sub, .int .i64 m.ver, .int .i64 m.home, .int .i64 m.x1, .int .i64 m.y1, .int .i64 m.x2, .int .i64 m.y2, .string sf, .int .i64 m.ev.pub, .int .u32 (m.ev.seq : Nat), .int .i64 m.ev.x, .int .i64 m.ev.y, .slice a m.ev.attrs.length c] ∧ sf.data.toList = m.flt ∧ evR m.ev ∧ AttsAt w (Old w.heap.size) a m.ev.attrs := by
  obtain ⟨cs, rfl, hn⟩ := okWide_struct T.msg hv
  obtain ⟨fuel, hf⟩ := h
  obtain ⟨m, sf, a, c, e, h1, h2, h3⟩ := open_msg_cells T hf
  refine ⟨m, sf, a, c, ?_, h1, h2, h3⟩
  congr 1
  apply Array.ext'
  simpa [Value.cells] using e
/-- Bytes. -/
theorem open_bytes {t e : TypeId} (ht : P.underlying t = some (.slice e)) (he : P.underlying e = some (.int .u8)) (hc : P.cellsOf e = 1) (hv : Value.okWide P w r b0 t v) (h : DataW.Trod enc P w base spare held t v d p) :
    ∃ (l : List UInt8) (a : Option Addr) (c : Nat), v = .slice a l.length c ∧ l.length ≤ c ∧ BytesAt w (Old w.heap.size) a l := by
  obtain ⟨x, n, cap, rfl⟩ := okWide_slice ht hv
  obtain ⟨fuel, hf⟩ := h
  obtain ⟨l, a, c, e1, hm, hq⟩ := open_elems (α := UInt8) (Q := fun _ v cs' => cs' = [.int .u8 (v.toNat : Int)]) ht hc hf (fun m _ i cs' x' h' => by
    obtain ⟨n0, j0, _, z0⟩ := DataW.trod_int he h'
    have hb : 0 ≤ n0 ∧ n0 < 256 := by
      have h1 : IntKind.u8.min = 0 := rfl
      have h2 : IntKind.u8.max = 255 := rfl
      simp only [Lit.wf, Bool.and_eq_true, decide_eq_true_eq] at z0
      omega
    refine ⟨UInt8.ofNat n0.toNat, ?_⟩
    rw [j0]
    have : (UInt8.ofNat n0.toNat).toNat = n0.toNat := by
      rw [UInt8.toNat_ofNat']
      omega
    rw [this, show ((n0.toNat : Nat) : Int) = n0 by omega]) (by omega) (fun i v cs' hq => by rw [hq]; rfl)
  have hle : l.length ≤ c := by
    rcases DataW.trod_slice ht hf with ⟨e2, _⟩ | ⟨a', len', cap', _, _, _, _, e2, _, _, hl, _⟩
    · rw [e1] at e2
      simp only [List.cons.injEq, Value.slice.injEq, and_true] at e2
      omega
    · rw [e1] at e2
      simp only [List.cons.injEq, Value.slice.injEq, and_true] at e2
      omega
  refine ⟨l, a, c, ?_, hle, hm, fun h0 => ?_⟩
  · simp [Value.cells] at e1
    obtain ⟨rfl, rfl, rfl⟩ := e1
    rfl
  · obtain ⟨g, o, e, hg, hq⟩ := hq h0
    refine ⟨g, o, e, hg, fun k hk => ?_⟩
    obtain ⟨cs', rfl, h3⟩ := hq k hk
    simpa using h3 0 (by omega)
end
end Go.Proofs.Ytndgbdbjmogioaa.Wi
namespace Go.Proofs.Ytndgbdbjmogioaa.Wi
open Go.RowKit Go.Proofs.Ytndgbdbjmogioaa.Fl
set_option linter.unusedVariables false
set_option linter.unusedSimpArgs false

def m1 : Msg := ⟨2, 5, 1, 0, 0, 0, 0, 0, [], ⟨0, 0, 0, 0, []⟩⟩
theorem m1_put : putM m1 = [2, 5, 1] := by
  unfold m1
  rw [put_2, numL_small (by decide), numL_small (by decide), numL_small (by decide)]
  rfl
theorem m1_may : msgB m1 = true := by decide
theorem m1_rng : evR m1.ev := ⟨Nat.zero_le _, by simp [m1]⟩
theorem m1_read : readM [2, 5, 1] = (0, m1) := by rw [← m1_put]; exact read_put m1_may m1_rng
theorem m0_may : msgB msg0 = false := by decide
theorem str_same (w : World) : (binOp .eql 9 (.string ⟨#[2, 5, 1]⟩) (.string ⟨#[2, 5, 1]⟩)).run Try.prog w = .ok (.bool true) w := by kernel_rfl
set_option maxHeartbeats 8000000
set_option maxRecDepth 100000
theorem up_any (w : World) : Calls Try.prog 6 #[] w fun e w' => e = .returned (.bool true) ∧ Below w.heap.size w w' := by
  have C1 : Calls Try.prog 9 #[.agg #[.int .i64 2, .int .i64 5, .int .i64 1, .int .i64 0, .int .i64 0, .int .i64 0, .int .i64 0, .int .i64 0, .string ⟨#[]⟩, .int .i64 0, .int .u32 0, .int .i64 0, .int .i64 0, .slice none 0 0]] w fun x w' => PutEnd m1 w w' x := put_any m1 m1_rng ⟨#[]⟩ rfl none 0 w (atts_none2 _ _ _)
  have C2 : ∀ W, Calls Try.prog 9 #[.agg #[.int .i64 0, .int .i64 0, .int .i64 0, .int .i64 0, .int .i64 0, .int .i64 0, .int .i64 0, .int .i64 0, .string ⟨#[]⟩, .int .i64 0, .int .u32 0, .int .i64 0, .int .i64 0, .slice none 0 0]] W fun x w' => PutEnd msg0 W w' x := fun W => put_any msg0 ⟨Nat.zero_le _, by simp [msg0, ev0]⟩ ⟨#[]⟩ rfl none 0 W (atts_none2 _ _ _)
  have HC1 := Lib.hid C1
  have HC2 := Lib.hid C2
  clear C1 C2
  go_enter Try.func6, Try.ntmps6
  go_wp2_with fail
  refine Calls.mono HC1.out ?_
  rintro x w1 ⟨hb1, ⟨hf, _⟩ | ⟨_, v1, rfl, ho1⟩⟩
  · rw [m1_may] at hf
    cases hf
  have B1 := Lib.hid hb1
  have ho1 := ho1
  rw [m1_put] at ho1
  obtain ⟨a1, n1, c1, e1⟩ := own_slice ho1
  subst e1
  obtain ⟨hn1, hc1, hby1⟩ := ho1.bytes
  subst hn1
  have Y1 := Lib.hid hby1
  clear hb1 ho1 hby1 hc1
  go_wp2_with fail
  refine Calls.mono (HC2.out _) ?_
  rintro x w2 ⟨hb2, ⟨_, rfl⟩ | ⟨hf, _⟩⟩
  case inr => (rw [m0_may] at hf; cases hf)
  have B2 := Lib.hid (B1.out.trans (hb2.mono B1.out.size))
  have Y2 := Lib.hid (show BytesAt w2 (Old w2.heap.size) a1 [2, 5, 1] from Y1.out.far fun g hg => ⟨Nat.lt_of_lt_of_le hg.2 hb2.size, hb2.block g hg.2⟩)
  clear hb2
  obtain ⟨w3, hw3⟩ : ∃ W0 : World, W0 = w2.alloc (.cells #[.int .u8 2, .int .u8 5, .int .u8 1] 5) := ⟨_, rfl⟩
  have B3 := Lib.hid (show Below w2.heap.size w2 w3 by rw [hw3]; exact below_alloc _ _)
  have Y3 := Lib.hid (show BytesAt w3 (Old w3.heap.size) (some ⟨w2.heap.size, 0, none⟩) [2, 5, 1] by
    refine ⟨by simp [maxLen], fun _ => ⟨w2.heap.size, 0, rfl, by rw [hw3]; simp [Old], fun k hk => ?_⟩⟩
    simp only [List.length_cons, List.length_nil] at hk
    rw [hw3]
    match k, hk with
    | 0, _ => simp [go_sem]
    | 1, _ => simp [go_sem]
    | 2, _ => simp [go_sem])
  have C3 : Calls Try.prog 14 #[.slice (some ⟨w2.heap.size, 0, none⟩) 3 3] w3 fun e w' => GetEnd [2, 5, 1] w3 w' e := get_any (some ⟨w2.heap.size, 0, none⟩) 3 [2, 5, 1] w3 Y3.out (by simp)
  have HC3 := Lib.hid C3
  have HW3 := Lib.hid hw3
  clear C3 hw3
  go_wp2_with fail
  rw [← HW3.out]
  refine Calls.mono HC3.out ?_
  rintro x w4 ⟨a4, c4, rfl, -, hb4⟩
  rw [m1_read]
  have B4 := Lib.hid (B2.out.trans ((B3.out.trans (hb4.mono B3.out.size)).mono B2.out.size))
  have Y4 := Lib.hid (show BytesAt w4 (Old w4.heap.size) a1 [2, 5, 1] from Y2.out.far fun g hg => ⟨Nat.lt_of_lt_of_le hg (Nat.le_trans B3.out.size hb4.size), (hb4.block g (Nat.lt_of_lt_of_le hg B3.out.size)).trans (B3.out.block g hg)⟩)
  have hst := fun W (h : BytesAt W (Old w4.heap.size) a1 [2, 5, 1]) => run_text a1 c1 [2, 5, 1] W h
  obtain ⟨w5, hw5⟩ : ∃ W0 : World, W0 = w4.alloc (.cells #[.int .i64 2, .int .i64 5, .int .i64 1, .int .i64 0, .int .i64 0, .int .i64 0, .int .i64 0, .int .i64 0, .string ⟨#[]⟩, .int .i64 0, .int .u32 0, .int .i64 0, .int .i64 0, .slice a4 0 c4] 31) := ⟨_, rfl⟩
  have B5 := Lib.hid (show Below w.heap.size w w5 by rw [hw5]; exact B4.out.alloc B4.out.size _)
  have hs5 : (convert 34 9 (.slice a1 3 c1)).run Try.prog w5 = .ok (.string ⟨#[2, 5, 1]⟩) w5 := hst w5 (Y4.out.far fun g hg => ⟨hg, by rw [hw5]; exact Below.heap_alloc _ _ _ hg⟩)
  have HS5 := Lib.hid hs5
  have HW5 := Lib.hid hw5
  rw [show msgV (0, m1).2 a4 c4 = .agg #[.int .i64 2, .int .i64 5, .int .i64 1, .int .i64 0, .int .i64 0, .int .i64 0, .int .i64 0, .int .i64 0, .string ⟨#[]⟩, .int .i64 0, .int .u32 0, .int .i64 0, .int .i64 0, .slice a4 0 c4] from rfl, show errW (0, m1).1 = .nilIface from rfl]
  have q1 := Cn.nil_nil
  have q2 := Cn.eql_codes 1 1
  have q3 := str_same
  clear hst hs5 hb4 hw5
  have hs5 := HS5.out
  rw [HW5.out] at hs5
  go_wp2_with fail
  go_ret
  exact ⟨rfl, by rw [← HW5.out]; exact B5.out⟩
end Go.Proofs.Ytndgbdbjmogioaa.Wi
namespace Go.Proofs.Ytndgbdbjmogioaa.Wi
open Go.RowKit Go.Proofs.Ytndgbdbjmogioaa.Fl
set_option linter.unusedVariables false
set_option linter.unusedSimpArgs false

theorem neq_pt (a b c d : Int) (w : World) : (binOp .neq 26 (.agg #[.int .i64 a, .int .i64 b]) (.agg #[.int .i64 c, .int .i64 d])).run Try.prog w = .ok (.bool (!(a == c && b == d))) w := by
  simp [go_sem]
  by_cases h1 : a = c <;> by_cases h2 : b = d <;> simp [h1, h2]
set_option maxHeartbeats 4000000
set_option maxRecDepth 100000
theorem eventsR_any (e f : Ev) (a b : Option Addr) (c d : Nat) (w : World) (hA : AttsAt w (Old w.heap.size) a e.attrs) (hB : AttsAt w (Old w.heap.size) b f.attrs) :
    Calls Try.prog 26 #[.agg #[.int .i64 e.pub, .int .u32 (e.seq : Nat), .int .i64 e.x, .int .i64 e.y, .slice a e.attrs.length c], .agg #[.int .i64 f.pub, .int .u32 (f.seq : Nat), .int .i64 f.x, .int .i64 f.y, .slice b f.attrs.length d]] w fun x w' => x = .returned (.bool (evS e f)) ∧ Below w.heap.size w w' := by
  obtain ⟨n1, hn1⟩ : ∃ n, n = e.attrs.length := ⟨_, rfl⟩
  obtain ⟨n2, hn2⟩ : ∃ n, n = f.attrs.length := ⟨_, rfl⟩
  have hm : n1 ≤ 9223372036854775807 := by have := hA.1; unfold maxLen at this; omega
  obtain ⟨w1, hw1⟩ : ∃ W0 : World, W0 = (w.alloc (.cells #[.int .i64 e.pub, .int .u32 (e.seq : Nat), .int .i64 e.x, .int .i64 e.y, .slice a n1 c] 29)).alloc (.cells #[.int .i64 f.pub, .int .u32 (f.seq : Nat), .int .i64 f.x, .int .i64 f.y, .slice b n2 d] 29) := ⟨_, rfl⟩
  have B1 := Lib.hid (show Below w.heap.size w w1 by rw [hw1]; exact (below_alloc _ _).alloc (by simp) _)
  have HA := Lib.hid (show AttsAt w1 (Old w1.heap.size) a e.attrs from hA.far fun g hg => ⟨Nat.lt_of_lt_of_le hg B1.out.size, B1.out.block g hg⟩)
  have HB := Lib.hid (show AttsAt w1 (Old w1.heap.size) b f.attrs from hB.far fun g hg => ⟨Nat.lt_of_lt_of_le hg B1.out.size, B1.out.block g hg⟩)
  have X1 := Lib.hid (show Bx w1 none (.bool false) w.heap.size 29 #[.int .i64 e.pub, .int .u32 (e.seq : Nat), .int .i64 e.x, .int .i64 e.y, .slice a n1 c] by rw [hw1]; exact ⟨(Below.heap_alloc _ _ _ (by simp)).trans (heap_alloc_new w _), by simp, by simp [Value.ownBlock]⟩)
  have Y1 := Lib.hid (show Bx w1 none (.bool false) (w.heap.size + 1) 29 #[.int .i64 f.pub, .int .u32 (f.seq : Nat), .int .i64 f.x, .int .i64 f.y, .slice b n2 d] by rw [hw1, show w.heap.size + 1 = (w.alloc (.cells #[.int .i64 e.pub, .int .u32 (e.seq : Nat), .int .i64 e.x, .int .i64 e.y, .slice a n1 c] 29)).heap.size by simp]; exact ⟨heap_alloc_new _ _, by simp, by simp [Value.ownBlock]⟩)
  have HW := Lib.hid hw1
  have HN1 := Lib.hid hn1
  have HN2 := Lib.hid hn2
  rw [← hn1, ← hn2]
  obtain ⟨t1, ht1⟩ : ∃ b : Bool, (e.pub == f.pub) = b := ⟨_, rfl⟩
  obtain ⟨t2, ht2⟩ : ∃ b : Bool, (((e.seq : Nat) : Int) == ((f.seq : Nat) : Int)) = b := ⟨_, rfl⟩
  obtain ⟨t3, ht3⟩ : ∃ b : Bool, (e.x == f.x && e.y == f.y) = b := ⟨_, rfl⟩
  obtain ⟨rr, hrr⟩ : ∃ b : Bool, (attsEq e.attrs f.attrs) = b := ⟨_, rfl⟩
  have q1 : (e.pub != f.pub) = !t1 := by rw [← ht1]; rfl
  have q2 : (((e.seq : Nat) : Int) != ((f.seq : Nat) : Int)) = !t2 := by rw [← ht2]; rfl
  have q3 := neq_pt e.x e.y f.x f.y
  have HRES := Lib.hid (show evS e f = (t1 && t2 && t3 && rr) by unfold evS; rw [ht1, ht2, ht3, hrr])
  have HRR := Lib.hid hrr
  rw [ht3] at q3
  obtain ⟨res, hres⟩ : ∃ x, x = evS e f := ⟨_, rfl⟩
  have HR := Lib.hid hres
  rw [← hres]
  clear ht3 hrr hw1 hA hB hres hn1 hn2
  cases t1
  · have HF := Lib.hid (show res = false by rw [HR.out, HRES.out]; rfl)
    go_enter Try.func26, Try.ntmps26
    go_wp2_with fail
    go_ret
    rw [← HW.out]
    exact ⟨by rw [HF.out]; rfl, B1.out⟩
  · cases t2
    · have HF := Lib.hid (show res = false by rw [HR.out, HRES.out]; rfl)
      go_enter Try.func26, Try.ntmps26
      go_wp2_with fail
      go_ret
      rw [← HW.out]
      exact ⟨by rw [HF.out]; rfl, B1.out⟩
    · cases t3
      · have HF := Lib.hid (show res = false by rw [HR.out, HRES.out]; rfl)
        go_enter Try.func26, Try.ntmps26
        go_wp2_with fail
        go_ret
        rw [← HW.out]
        exact ⟨by rw [HF.out]; rfl, B1.out⟩
      · have HE := Lib.hid (show res = rr by rw [HR.out, HRES.out]; rfl)
        by_cases hl : n1 = n2
        · subst hl
          have hnn : ((n1 : Int) != (n1 : Int)) = false := by simp
          obtain ⟨x0, x1, x2, x3, x4⟩ := X1.out.c5
          obtain ⟨y0, y1, y2, y3, y4⟩ := Y1.out.c5
          go_enter Try.func26, Try.ntmps26
          go_wp2_with fail
          rw [← HW.out]
          clear q1 q2 q3 ht1 ht2
          go_loopw [5] (fun vi wr => EqR attEq e.attrs f.attrs w1 vi wr) (fun vi _ => n1 - (intOf vi).toNat)
          case atStart => exact ⟨0, Nat.zero_le _, rfl, Lib.hid (fun i u v h => absurd h (Nat.not_lt_zero _)), Below.refl _ _⟩
          case round =>
            obtain ⟨k, hk, rfl, hall, hBB⟩ := hrel
            have HK := Lib.hid hk
            have HBB := Lib.hid hBB
            have XR := Lib.hid (X1.out.later hBB)
            have YR := Lib.hid (Y1.out.later hBB)
            clear hk hBB x0 x1 x2 x3 x4 y0 y1 y2 y3 y4
            obtain ⟨x0, x1, x2, x3, x4⟩ := XR.out.c5
            obtain ⟨y0, y1, y2, y3, y4⟩ := YR.out.c5
            clear x0 x1 x2 x3 y0 y1 y2 y3
            by_cases hlt : k < n1
            · have hlz : (k : Int) < (n1 : Int) := by omega
              have hku : k < e.attrs.length := by rw [← HN1.out]; exact hlt
              have hkv : k < f.attrs.length := by rw [← HN2.out]; exact hlt
              obtain ⟨g, o, hg, _, hc⟩ := (HA.out.later HBB.out).2.2 (by omega)
              obtain ⟨g2, o2, hg2, _, hc2⟩ := (HB.out.later HBB.out).2.2 (by omega)
              obtain ⟨c0, c1, c2, c3⟩ := hc k hku
              obtain ⟨d0, d1, d2, d3⟩ := hc2 k hkv
              obtain ⟨U, hU⟩ : ∃ V, V = e.attrs[k] := ⟨_, rfl⟩
              obtain ⟨V, hV⟩ : ∃ V, V = f.attrs[k] := ⟨_, rfl⟩
              rw [← hU] at c0 c1 c2 c3
              rw [← hV] at d0 d1 d2 d3
              obtain ⟨s1, e1, f1⟩ := bs_of' U.name
              obtain ⟨r1, e2, f2⟩ := bs_of' U.str
              obtain ⟨s2, e3, f3⟩ := bs_of' V.name
              obtain ⟨r2, e4, f4⟩ := bs_of' V.str
              have HEQ := att_eq f1 f2 f3 f4
              obtain ⟨u1, ht1⟩ : ∃ x, x = U.text := ⟨_, rfl⟩
              obtain ⟨m1, hn1⟩ : ∃ x, x = U.num := ⟨_, rfl⟩
              obtain ⟨u2, ht2⟩ : ∃ x, x = V.text := ⟨_, rfl⟩
              obtain ⟨m2, hn2⟩ : ∃ x, x = V.num := ⟨_, rfl⟩
              rw [e1] at c0
              rw [← ht1] at c1 HEQ
              rw [← hn1] at c2 HEQ
              rw [e2] at c3
              rw [e3] at d0
              rw [← ht2] at d1 HEQ
              rw [← hn2] at d2 HEQ
              rw [e4] at d3
              have q := neq_att s1 u1 m1 r1 s2 u2 m2 r2
              obtain ⟨eq, heq⟩ : ∃ x, x = (s1.toList == s2.toList && u1 == u2 && m1 == m2 && r1.toList == r2.toList) := ⟨_, rfl⟩
              rw [← heq] at q HEQ
              have HEE := Lib.hid HEQ
              have HUK := Lib.hid (show e.attrs[k]? = some U by rw [hU]; exact List.getElem?_eq_getElem hku)
              have HVK := Lib.hid (show f.attrs[k]? = some V by rw [hV]; exact List.getElem?_eq_getElem hkv)
              subst hg
              subst hg2
              clear hc hc2 hU hV e1 e2 e3 e4 f1 f2 f3 f4 HEQ ht1 hn1 ht2 hn2 heq
              cases eq
              · have HF := Lib.hid (show res = false by rw [HE.out, ← HRR.out]; exact eqL_no HUK.out HVK.out HEE.out.symm)
                go_wp2_with fail
                go_region
                all_goals
                  go_wp2_with fail
                  go_ret
                  exact ⟨by rw [HF.out]; rfl, (B1.out.trans (HBB.out.mono B1.out.size)).drew⟩
              · have HF := Lib.hid (eqL_more hall.out HUK.out HVK.out HEE.out.symm)
                go_wp2_with fail
                go_region
                all_goals
                  go_wp2_with fail
                  go_roundw
                  case rel => exact ⟨k + 1, by omega, by go_num, HF, HBB.out.drew⟩
                  case measure => simp [intOf]; omega
            · have hlz : ¬ (k : Int) < (n1 : Int) := by omega
              have HF := Lib.hid (show res = true by
                rw [HE.out, ← HRR.out]
                exact eqL_yes (HN1.out.symm.trans HN2.out) fun i u v hi => hall.out i u v (by have := HN1.out; omega))
              go_wp2_with fail
              go_ret
              exact ⟨by rw [HF.out]; rfl, B1.out.trans (HBB.out.mono B1.out.size)⟩
        · have hnn : ((n1 : Int) != (n2 : Int)) = true := by rw [bne_iff_ne]; omega
          have hnn2 : ¬ (n1 : Int) = (n2 : Int) := by omega
          have HF := Lib.hid (show res = false by rw [HE.out, ← HRR.out]; exact eqL_len (by rw [← HN1.out, ← HN2.out]; exact hl))
          go_enter Try.func26, Try.ntmps26
          go_wp2_with fail
          go_ret
          rw [← HW.out]
          exact ⟨by rw [HF.out]; rfl, B1.out⟩
theorem sameR_any (m n : Msg) (sf sg : ByteArray) (hsf : sf.data.toList = m.flt) (hsg : sg.data.toList = n.flt) (a b : Option Addr) (c d : Nat) (w : World) (hA : AttsAt w (Old w.heap.size) a m.ev.attrs) (hB : AttsAt w (Old w.heap.size) b n.ev.attrs) :
    Calls Try.prog 12 #[.agg #[.int .i64 m.kind, .int .i64 m.sub, .int .i64 m.ver, .int .i64 m.home, .int .i64 m.x1, .int .i64 m.y1, .int .i64 m.x2, .int .i64 m.y2, .string sf, .int .i64 m.ev.pub, .int .u32 (m.ev.seq : Nat), .int .i64 m.ev.x, .int .i64 m.ev.y, .slice a m.ev.attrs.length c], .agg #[.int .i64 n.kind, .int .i64 n.sub, .int .i64 n.ver, .int .i64 n.home, .int .i64 n.x1, .int .i64 n.y1, .int .i64 n.x2, .int .i64 n.y2, .string sg, .int .i64 n.ev.pub, .int .u32 (n.ev.seq : Nat), .int .i64 n.ev.x, .int .i64 n.ev.y, .slice b n.ev.attrs.length d]] w fun x w' => x = .returned (.bool (msgS m n)) ∧ Below w.heap.size w w' := by
  obtain ⟨w1, hw1⟩ : ∃ W0 : World, W0 = (w.alloc (.cells #[.int .i64 m.kind, .int .i64 m.sub, .int .i64 m.ver, .int .i64 m.home, .int .i64 m.x1, .int .i64 m.y1, .int .i64 m.x2, .int .i64 m.y2, .string sf, .int .i64 m.ev.pub, .int .u32 (m.ev.seq : Nat), .int .i64 m.ev.x, .int .i64 m.ev.y, .slice a m.ev.attrs.length c] 31)).alloc (.cells #[.int .i64 n.kind, .int .i64 n.sub, .int .i64 n.ver, .int .i64 n.home, .int .i64 n.x1, .int .i64 n.y1, .int .i64 n.x2, .int .i64 n.y2, .string sg, .int .i64 n.ev.pub, .int .u32 (n.ev.seq : Nat), .int .i64 n.ev.x, .int .i64 n.ev.y, .slice b n.ev.attrs.length d] 31) := ⟨_, rfl⟩
  have B1 := Lib.hid (show Below w.heap.size w w1 by rw [hw1]; exact (below_alloc _ _).alloc (by simp) _)
  have X1 := Lib.hid (show Bx w1 none (.bool false) w.heap.size 31 #[.int .i64 m.kind, .int .i64 m.sub, .int .i64 m.ver, .int .i64 m.home, .int .i64 m.x1, .int .i64 m.y1, .int .i64 m.x2, .int .i64 m.y2, .string sf, .int .i64 m.ev.pub, .int .u32 (m.ev.seq : Nat), .int .i64 m.ev.x, .int .i64 m.ev.y, .slice a m.ev.attrs.length c] by rw [hw1]; exact ⟨(Below.heap_alloc _ _ _ (by simp)).trans (heap_alloc_new w _), by simp, by simp [Value.ownBlock]⟩)
  have Y1 := Lib.hid (show Bx w1 none (.bool false) (w.heap.size + 1) 31 #[.int .i64 n.kind, .int .i64 n.sub, .int .i64 n.ver, .int .i64 n.home, .int .i64 n.x1, .int .i64 n.y1, .int .i64 n.x2, .int .i64 n.y2, .string sg, .int .i64 n.ev.pub, .int .u32 (n.ev.seq : Nat), .int .i64 n.ev.x, .int .i64 n.ev.y, .slice b n.ev.attrs.length d] by rw [hw1, show w.heap.size + 1 = (w.alloc (.cells #[.int .i64 m.kind, .int .i64 m.sub, .int .i64 m.ver, .int .i64 m.home, .int .i64 m.x1, .int .i64 m.y1, .int .i64 m.x2, .int .i64 m.y2, .string sf, .int .i64 m.ev.pub, .int .u32 (m.ev.seq : Nat), .int .i64 m.ev.x, .int .i64 m.ev.y, .slice a m.ev.attrs.length c] 31)).heap.size by simp]; exact ⟨heap_alloc_new _ _, by simp, by simp [Value.ownBlock]⟩)
  have C := Lib.hid (eventsR_any m.ev n.ev a b c d w1 (hA.far fun g hg => ⟨Nat.lt_of_lt_of_le hg B1.out.size, B1.out.block g hg⟩) (hB.far fun g hg => ⟨Nat.lt_of_lt_of_le hg B1.out.size, B1.out.block g hg⟩))
  have HW := Lib.hid hw1
  obtain ⟨t1, ht1⟩ : ∃ b : Bool, (m.kind == n.kind) = b := ⟨_, rfl⟩
  obtain ⟨t2, ht2⟩ : ∃ b : Bool, (m.sub == n.sub) = b := ⟨_, rfl⟩
  obtain ⟨t3, ht3⟩ : ∃ b : Bool, (m.ver == n.ver) = b := ⟨_, rfl⟩
  obtain ⟨t4, ht4⟩ : ∃ b : Bool, (m.home == n.home) = b := ⟨_, rfl⟩
  obtain ⟨t5, ht5⟩ : ∃ b : Bool, (m.x1 == n.x1 && m.y1 == n.y1 && m.x2 == n.x2 && m.y2 == n.y2) = b := ⟨_, rfl⟩
  obtain ⟨t6, ht6⟩ : ∃ b : Bool, (sf.toList == sg.toList) = b := ⟨_, rfl⟩
  obtain ⟨rr, hrr⟩ : ∃ b : Bool, (evS m.ev n.ev) = b := ⟨_, rfl⟩
  have q5 := eql_rect m.x1 m.y1 m.x2 m.y2 n.x1 n.y1 n.x2 n.y2
  have HRES := Lib.hid (show msgS m n = (t1 && t2 && t3 && t4 && t5 && t6 && rr) by
    unfold msgS recS
    rw [Lib.toList_data, Lib.toList_data, hsf, hsg] at ht6
    rw [ht1, ht2, ht3, ht4, ht5, ht6, hrr])
  rw [hrr] at C
  rw [ht5] at q5
  clear ht5 hrr hsf hsg
  obtain ⟨res, hres⟩ : ∃ x, x = msgS m n := ⟨_, rfl⟩
  have HR := Lib.hid hres
  rw [← hres]
  clear hw1 hA hB hres
  cases t1
  · have HF := Lib.hid (show res = false by rw [HR.out, HRES.out]; rfl)
    go_enter Try.func12, Try.ntmps12
    go_wp2_with fail
    rw [← HW.out]
    refine Calls.mono C.out ?_
    rintro x w2 ⟨rfl, hb⟩
    have B2 := Lib.hid (B1.out.trans (hb.mono B1.out.size))
    obtain ⟨x0, x1, x2, x3, x4, x5, x6, x7, x8, x9, x10, x11, x12, x13⟩ := (X1.out.later hb).c14
    obtain ⟨y0, y1, y2, y3, y4, y5, y6, y7, y8, y9, y10, y11, y12, y13⟩ := (Y1.out.later hb).c14
    clear hb
    go_wp2_with fail
    go_ret
    exact ⟨by rw [HF.out]; rfl, B2.out⟩
  · cases t2
    · have HF := Lib.hid (show res = false by rw [HR.out, HRES.out]; rfl)
      go_enter Try.func12, Try.ntmps12
      go_wp2_with fail
      rw [← HW.out]
      refine Calls.mono C.out ?_
      rintro x w2 ⟨rfl, hb⟩
      have B2 := Lib.hid (B1.out.trans (hb.mono B1.out.size))
      obtain ⟨x0, x1, x2, x3, x4, x5, x6, x7, x8, x9, x10, x11, x12, x13⟩ := (X1.out.later hb).c14
      obtain ⟨y0, y1, y2, y3, y4, y5, y6, y7, y8, y9, y10, y11, y12, y13⟩ := (Y1.out.later hb).c14
      clear hb
      go_wp2_with fail
      go_ret
      exact ⟨by rw [HF.out]; rfl, B2.out⟩
    · cases t3
      · have HF := Lib.hid (show res = false by rw [HR.out, HRES.out]; rfl)
        go_enter Try.func12, Try.ntmps12
        go_wp2_with fail
        rw [← HW.out]
        refine Calls.mono C.out ?_
        rintro x w2 ⟨rfl, hb⟩
        have B2 := Lib.hid (B1.out.trans (hb.mono B1.out.size))
        obtain ⟨x0, x1, x2, x3, x4, x5, x6, x7, x8, x9, x10, x11, x12, x13⟩ := (X1.out.later hb).c14
        obtain ⟨y0, y1, y2, y3, y4, y5, y6, y7, y8, y9, y10, y11, y12, y13⟩ := (Y1.out.later hb).c14
        clear hb
        go_wp2_with fail
        go_ret
        exact ⟨by rw [HF.out]; rfl, B2.out⟩
      · cases t4
        · have HF := Lib.hid (show res = false by rw [HR.out, HRES.out]; rfl)
          go_enter Try.func12, Try.ntmps12
          go_wp2_with fail
          rw [← HW.out]
          refine Calls.mono C.out ?_
          rintro x w2 ⟨rfl, hb⟩
          have B2 := Lib.hid (B1.out.trans (hb.mono B1.out.size))
          obtain ⟨x0, x1, x2, x3, x4, x5, x6, x7, x8, x9, x10, x11, x12, x13⟩ := (X1.out.later hb).c14
          obtain ⟨y0, y1, y2, y3, y4, y5, y6, y7, y8, y9, y10, y11, y12, y13⟩ := (Y1.out.later hb).c14
          clear hb
          go_wp2_with fail
          go_ret
          exact ⟨by rw [HF.out]; rfl, B2.out⟩
        · cases t5
          · have HF := Lib.hid (show res = false by rw [HR.out, HRES.out]; rfl)
            go_enter Try.func12, Try.ntmps12
            go_wp2_with fail
            rw [← HW.out]
            refine Calls.mono C.out ?_
            rintro x w2 ⟨rfl, hb⟩
            have B2 := Lib.hid (B1.out.trans (hb.mono B1.out.size))
            obtain ⟨x0, x1, x2, x3, x4, x5, x6, x7, x8, x9, x10, x11, x12, x13⟩ := (X1.out.later hb).c14
            obtain ⟨y0, y1, y2, y3, y4, y5, y6, y7, y8, y9, y10, y11, y12, y13⟩ := (Y1.out.later hb).c14
            clear hb
            go_wp2_with fail
            go_ret
            exact ⟨by rw [HF.out]; rfl, B2.out⟩
          · cases t6
            · have HF := Lib.hid (show res = false by rw [HR.out, HRES.out]; rfl)
              go_enter Try.func12, Try.ntmps12
              go_wp2_with fail
              rw [← HW.out]
              refine Calls.mono C.out ?_
              rintro x w2 ⟨rfl, hb⟩
              have B2 := Lib.hid (B1.out.trans (hb.mono B1.out.size))
              obtain ⟨x0, x1, x2, x3, x4, x5, x6, x7, x8, x9, x10, x11, x12, x13⟩ := (X1.out.later hb).c14
              obtain ⟨y0, y1, y2, y3, y4, y5, y6, y7, y8, y9, y10, y11, y12, y13⟩ := (Y1.out.later hb).c14
              clear hb
              go_wp2_with fail
              go_ret
              exact ⟨by rw [HF.out]; rfl, B2.out⟩
            · have HF := Lib.hid (show res = rr by rw [HR.out, HRES.out]; rfl)
              go_enter Try.func12, Try.ntmps12
              go_wp2_with fail
              rw [← HW.out]
              refine Calls.mono C.out ?_
              rintro x w2 ⟨rfl, hb⟩
              have B2 := Lib.hid (B1.out.trans (hb.mono B1.out.size))
              obtain ⟨x0, x1, x2, x3, x4, x5, x6, x7, x8, x9, x10, x11, x12, x13⟩ := (X1.out.later hb).c14
              obtain ⟨y0, y1, y2, y3, y4, y5, y6, y7, y8, y9, y10, y11, y12, y13⟩ := (Y1.out.later hb).c14
              clear hb
              go_wp2_with fail
              go_ret
              exact ⟨by rw [HF.out]; rfl, B2.out⟩
end Go.Proofs.Ytndgbdbjmogioaa.Wi
namespace Go.Proofs.Ytndgbdbjmogioaa.Wi
open Go.RowKit Go.Proofs.Ytndgbdbjmogioaa.Fl
set_option linter.unusedVariables false
set_option linter.unusedSimpArgs false

theorem getR_any (a0 : Option Addr) (c0 : Nat) (l : List UInt8) (w : World) (h : BytesAt w (Old w.heap.size) a0 l) (hc : l.length ≤ c0) :
    Calls Try.prog 15 #[.slice a0 l.length c0] w fun e w' => GetRE l w w' e := by
  obtain ⟨k, ⟨e1, l1⟩, hk⟩ : ∃ v t, numS 4 (0, l) = (v, t) := ⟨_, _, rfl⟩
  have h4 := numS_le 4 (0, l)
  have he := numS_err 4 (0, l)
  rw [hk] at h4 he
  simp only at h4 he
  by_cases h0 : k = 0
  · subst h0
    by_cases h1 : e1 = 0
    · exact getR_0a a0 c0 l w h hc e1 l1 hk h1
    · exact getR_0b a0 c0 l w h hc e1 l1 hk h1
  · have h1 : e1 = 0 := Decidable.byContradiction fun h => h0 (he h)
    have hh : k = 1 ∨ k = 2 ∨ k = 3 ∨ k = 4 := by omega
    rcases hh with rfl | rfl | rfl | rfl
    · exact getR_1 a0 c0 l w h hc e1 l1 hk h1
    · exact getR_2 a0 c0 l w h hc e1 l1 hk h1
    · exact getR_3 a0 c0 l w h hc e1 l1 hk h1
    · exact getR_4 a0 c0 l w h hc e1 l1 hk h1
end Go.Proofs.Ytndgbdbjmogioaa.Wi
namespace Go.Proofs.Ytndgbdbjmogioaa.Wi
open Go.RowKit Go.Proofs.Ytndgbdbjmogioaa.Fl
set_option linter.unusedVariables false
set_option linter.unusedSimpArgs false

theorem eqL_selfG {α : Type} (q : α → α → Bool) (h : ∀ x, q x x = true) : ∀ l : List α, eqL q l l = true
  | [] => rfl
  | x :: l => by simp [eqL, h x, eqL_selfG q h l]
theorem attEq_selfG (v : Att) : attEq v v = true := by simp [attEq]
theorem msgS_selfG (m : Msg) : msgS m m = true := by simp [msgS, recS, evS, attsEq, eqL_selfG attEq attEq_selfG]
theorem GetEnd.cellsG {l : List UInt8} {w w' : World} {e : Ending} (h : GetEnd l w w' e) {k : Nat} {n : Msg} (hr : readM l = (k, n)) : ∃ a c, e = .returned (.tuple #[.agg #[.int .i64 n.kind, .int .i64 n.sub, .int .i64 n.ver, .int .i64 n.home, .int .i64 n.x1, .int .i64 n.y1, .int .i64 n.x2, .int .i64 n.y2, .string ⟨n.flt.toArray⟩, .int .i64 n.ev.pub, .int .u32 (n.ev.seq : Nat), .int .i64 n.ev.x, .int .i64 n.ev.y, .slice a n.ev.attrs.length c], errW k]) ∧ AttsAt w' (Old w'.heap.size) a n.ev.attrs ∧ Below w.heap.size w w' := by
  obtain ⟨a, c, rfl, h2, h3⟩ := h
  rw [hr] at h2 ⊢
  exact ⟨a, c, rfl, h2, h3⟩
theorem GetRE.cells {l : List UInt8} {w w' : World} {e : Ending} (h : GetRE l w w' e) {k : Nat} {n : Msg} (hr : readM l = (k, n)) : ∃ a c, e = .returned (.tuple #[.agg #[.int .i64 n.kind, .int .i64 n.sub, .int .i64 n.ver, .int .i64 n.home, .int .i64 n.x1, .int .i64 n.y1, .int .i64 n.x2, .int .i64 n.y2, .string ⟨n.flt.toArray⟩, .int .i64 n.ev.pub, .int .u32 (n.ev.seq : Nat), .int .i64 n.ev.x, .int .i64 n.ev.y, .slice a n.ev.attrs.length c], .int .i64 (k : Nat)]) ∧ AttsAt w' (Old w'.heap.size) a n.ev.attrs ∧ Below w.heap.size w w' := by
  obtain ⟨a, c, rfl, h2, h3⟩ := h
  rw [hr] at h2 ⊢
  exact ⟨a, c, rfl, h2, h3⟩
theorem code_read {l : List UInt8} {k : Nat} {n : Msg} (hr : readM l = (k, n)) (w : World) : Calls Try.prog 16 #[errW k] w fun e w' => e = .returned (.int .i64 (k : Nat)) ∧ w = w' := by
  have hk : k = 0 ∨ 1 ≤ k ∧ k ≤ 12 := by
    rcases read_code l with h | ⟨-, h⟩
    · rw [hr] at h
      exact Or.inl h
    · rw [hr] at h
      have h : k = 6 ∨ k = 7 := h
      omega
  rcases hk with rfl | ⟨h1, h2⟩
  · exact Cn.code_nil w
  · rw [show errW k = .iface 40 (.int .i64 (k : Nat)) by unfold errW; rw [if_neg (by omega)]]
    exact Cn.code_any k h1 h2 w
def LawEndG (w w' : World) (e : Ending) : Prop := e = .returned (.bool true) ∧ Below w.heap.size w w'
set_option maxHeartbeats 16000000
set_option maxRecDepth 100000
theorem gets_any (l : List UInt8) (b : Option Addr) (d : Nat) (hd : l.length ≤ d) (w : World) (hB : BytesAt w (Old w.heap.size) b l) :
    Calls Try.prog 4 #[.slice b l.length d] w fun e w' => LawEndG w w' e := by
  obtain ⟨n0, hn0⟩ : ∃ n, n = l.length := ⟨_, rfl⟩
  obtain ⟨k, n, hkn⟩ : ∃ k n, readM l = (k, n) := ⟨_, _, rfl⟩
  have HBY := Lib.hid (show ∀ W, Below w.heap.size w W → BytesAt W (Old W.heap.size) b l from fun W hW => hB.far fun g hg => ⟨Nat.lt_of_lt_of_le hg hW.size, hW.block g hg⟩)
  have CG := Lib.hid (fun W (hW : Below w.heap.size w W) => hn0 ▸ get_any b d l W (HBY.out W hW) hd)
  have CR := Lib.hid (fun W (hW : Below w.heap.size w W) => hn0 ▸ getR_any b d l W (HBY.out W hW) hd)
  have CC := Lib.hid (code_read hkn)
  have CS := Lib.hid (fun a1 c1 a2 c2 W (hP : AttsAt W (Old W.heap.size) a1 n.ev.attrs) (hQ : AttsAt W (Old W.heap.size) a2 n.ev.attrs) => msgS_selfG n ▸ sameR_any n n ⟨n.flt.toArray⟩ ⟨n.flt.toArray⟩ (by simp) (by simp) a1 a2 c1 c2 W hP hQ)
  have HKN := Lib.hid hkn
  obtain ⟨er, her⟩ : ∃ v, v = errW k := ⟨_, rfl⟩
  have HER := Lib.hid her
  have h63 : n0 ≤ 9223372036854775807 := by have := hB.1; unfold maxLen at this; omega
  rw [← hn0]
  clear hB hkn hn0 hd her
  go_enter Try.func4, Try.ntmps4
  go_wp2_with fail
  refine Calls.mono (up_any w) ?_
  rintro x w2 ⟨rfl, hb⟩
  have B2 := Lib.hid hb
  clear hb
  by_cases hlen : (5000 : Int) < (n0 : Int)
  · go_wp2_with fail
    go_ret
    exact ⟨rfl, B2.out⟩
  go_wp2_with fail
  refine Calls.mono (CG.out _ B2.out) ?_
  rintro x w3 hge
  obtain ⟨a1, c1, rfl, hat, hb⟩ := hge.cellsG HKN.out
  rw [← HER.out]
  have B3 := Lib.hid (B2.out.trans (hb.mono B2.out.size))
  obtain ⟨w4, hw4⟩ : ∃ W0 : World, W0 = w3.alloc (.cells #[.int .i64 n.kind, .int .i64 n.sub, .int .i64 n.ver, .int .i64 n.home, .int .i64 n.x1, .int .i64 n.y1, .int .i64 n.x2, .int .i64 n.y2, .string ⟨n.flt.toArray⟩, .int .i64 n.ev.pub, .int .u32 (n.ev.seq : Nat), .int .i64 n.ev.x, .int .i64 n.ev.y, .slice a1 n.ev.attrs.length c1] 31) := ⟨_, rfl⟩
  have B4 := Lib.hid (show Below w.heap.size w w4 by rw [hw4]; exact B3.out.alloc B3.out.size _)
  have A4 := Lib.hid (show AttsAt w4 (Old w4.heap.size) a1 n.ev.attrs from hat.far fun g hg => by rw [hw4]; exact ⟨by have : g < w3.heap.size := hg; unfold Old; simp; omega, Below.heap_alloc _ _ _ hg⟩)
  have X4 := Lib.hid (show Bx w4 none (.bool false) w3.heap.size 31 #[.int .i64 n.kind, .int .i64 n.sub, .int .i64 n.ver, .int .i64 n.home, .int .i64 n.x1, .int .i64 n.y1, .int .i64 n.x2, .int .i64 n.y2, .string ⟨n.flt.toArray⟩, .int .i64 n.ev.pub, .int .u32 (n.ev.seq : Nat), .int .i64 n.ev.x, .int .i64 n.ev.y, .slice a1 n.ev.attrs.length c1] by rw [hw4]; exact ⟨heap_alloc_new _ _, by simp, by simp [Value.ownBlock]⟩)
  have HW4 := Lib.hid hw4
  clear hge hat hb hw4
  go_wp2_with fail
  rw [← HW4.out]
  refine Calls.mono (CR.out _ B4.out) ?_
  rintro x w5 hge
  obtain ⟨a2, c2, rfl, hat, hb⟩ := hge.cells HKN.out
  have B5 := Lib.hid (B4.out.trans (hb.mono B4.out.size))
  obtain ⟨w6, hw6⟩ : ∃ W0 : World, W0 = w5.alloc (.cells #[.int .i64 n.kind, .int .i64 n.sub, .int .i64 n.ver, .int .i64 n.home, .int .i64 n.x1, .int .i64 n.y1, .int .i64 n.x2, .int .i64 n.y2, .string ⟨n.flt.toArray⟩, .int .i64 n.ev.pub, .int .u32 (n.ev.seq : Nat), .int .i64 n.ev.x, .int .i64 n.ev.y, .slice a2 n.ev.attrs.length c2] 31) := ⟨_, rfl⟩
  have H46 := Lib.hid (show Below w4.heap.size w4 w6 by rw [hw6]; exact hb.alloc hb.size _)
  have B6 := Lib.hid (show Below w.heap.size w w6 by rw [hw6]; exact B5.out.alloc B5.out.size _)
  have A6 := Lib.hid (show AttsAt w6 (Old w6.heap.size) a1 n.ev.attrs from A4.out.far fun g hg => ⟨Nat.lt_of_lt_of_le hg H46.out.size, H46.out.block g hg⟩)
  have C6 := Lib.hid (show AttsAt w6 (Old w6.heap.size) a2 n.ev.attrs from hat.far fun g hg => by rw [hw6]; exact ⟨by have : g < w5.heap.size := hg; unfold Old; simp; omega, Below.heap_alloc _ _ _ hg⟩)
  have X6 := Lib.hid (X4.out.later H46.out)
  have Y6 := Lib.hid (show Bx w6 none (.bool false) w5.heap.size 31 #[.int .i64 n.kind, .int .i64 n.sub, .int .i64 n.ver, .int .i64 n.home, .int .i64 n.x1, .int .i64 n.y1, .int .i64 n.x2, .int .i64 n.y2, .string ⟨n.flt.toArray⟩, .int .i64 n.ev.pub, .int .u32 (n.ev.seq : Nat), .int .i64 n.ev.x, .int .i64 n.ev.y, .slice a2 n.ev.attrs.length c2] by rw [hw6]; exact ⟨heap_alloc_new _ _, by simp, by simp [Value.ownBlock]⟩)
  have HW6 := Lib.hid hw6
  have CS6 := Lib.hid (CS.out a1 c1 a2 c2 w6 A6.out C6.out)
  have CC6 := Lib.hid (CC.out w6)
  rw [← HER.out] at CC6
  clear hge hat hb hw6
  go_wp2_with fail
  rw [← HW6.out]
  refine Calls.mono CC6.out ?_
  rintro x w7 ⟨rfl, rfl⟩
  obtain ⟨x0, x1, x2, x3, x4, x5, x6, x7, x8, x9, x10, x11, x12, x13⟩ := X6.out.c14
  obtain ⟨y0, y1, y2, y3, y4, y5, y6, y7, y8, y9, y10, y11, y12, y13⟩ := Y6.out.c14
  go_wp2_with fail
  refine Calls.mono CS6.out ?_
  rintro x w8 ⟨rfl, hb⟩
  go_wp2_with fail
  go_ret
  exact ⟨rfl, B6.out.trans (hb.mono B6.out.size)⟩
end Go.Proofs.Ytndgbdbjmogioaa.Wi
namespace Go.Proofs.Ytndgbdbjmogioaa.wireGets
open Go.ChangeShapes Go.WideShapes Go.ChangeAt Go.RowKit Go.Joins
set_option linter.unusedVariables false

theorem own : ownKnob Try.prog.godebug = none := by kernel_rfl
theorem laidOut : laidOutB Try.prog = true := by kernel_rfl

set_option maxHeartbeats 1000000 in
set_option maxRecDepth 100000 in
theorem lifted (os : Os) (started : os.Started) (H : Type) (enc : TypeId × Value → H) :
    ReturnsInHanded {} Try.checked os 4 .any (Rows.wireGetsSpec.pre6 enc Try.prog Try.f4 Rows.wireGetsRow.domain false) (Rows.wireGetsSpec.post enc Try.prog Try.f4 false true false false) := by
  refine returnsInHanded_of_change (C := Try.checked) own started (by kernel_rfl) Try.func4
    (ChangeSpec.witness6 (enc := enc) (C := Try.checked) false ⟨#[], #[.slice none 0 0], []⟩ 8 (by kernel_rfl) (by kernel_rfl) (by kernel_rfl) (by kernel_rfl)) ?_
  intro W base args ds gs before hval0 hW hcnd _
  have hval : ∀ (j : Nat) t v, Try.f4.params[j]? = some t → args[j]? = some v → Value.okWide Try.prog W .any base t v := hval0
  have hW' := hW
  obtain ⟨p, q, hA0, hV, rfl, hfz, hnd⟩ := hW
  have hA : DataW.TrodAll enc Try.prog W 0 (fun _ => true) true Try.f4.params.toList args.toList ds p := hA0
  rw [Try.params4] at hA hval
  obtain ⟨v0, vs0, d0, ds0, p0, q0, hargs, rfl, rfl, h0, r0⟩ := trodAll_cons hA
  obtain ⟨rfl, rfl, rfl⟩ := trodAll_nil r0
  obtain rfl : args = #[v0] := by cases args; simp_all
  obtain ⟨rfl, rfl⟩ := trodVars_none hV
  have k0 := h0
  have lt0 : ∀ x ∈ p0, x.block < W.heap.size := by obtain ⟨m, hm⟩ := k0; exact DataW.trod_lt m _ _ _ hm
  obtain ⟨l0, a0, c0, rfl, hc0, hA0'⟩ := Wi.open_bytes Try.underlying34 Try.underlying5 (by kernel_rfl) (hval 0 34 v0 rfl rfl) h0
  clear hA0 hval0
  refine (Wi.gets_any l0 a0 c0 hc0 W hA0').mono fun e W' ⟨he, bel⟩ => ?_
  subst he
  exact ⟨_, rfl, _, _, _, [], _, [], hW', trodAll_mk1 (shut_bool Try.underlying4 _), (trodAll_cons_mk (Below.trod laidOut (by kernel_rfl) (of_decide_eq_true (by kernel_rfl)) k0 bel lt0) trodAll_mk0), rfl, bel.frame _, fun h => by cases h⟩

theorem over : Rows.wireGetsRow.holds Try.pinned (OpenSpec.ofChange Rows.wireGetsSpec) :=
  OpenClaim.holds_of_wide 4 Try.f4 rfl rfl rfl rfl rfl rfl rfl ⟨rfl, rfl, rfl, rfl, rfl⟩ rfl rfl rfl rfl rfl (by kernel_rfl) Try.func4 (by kernel_rfl)
    (of_decide_eq_true (by kernel_rfl)) (by unfold Func.isWrapper; first | (rw [if_pos (by decide +kernel)]; kernel_rfl) | (rw [if_neg (by decide +kernel)]; exact ⟨rfl, rfl⟩))
    (fun os started H enc _ => lifted os started H enc)

theorem proved : Rows.WireGetsSaid := over
#print axioms proved
end Go.Proofs.Ytndgbdbjmogioaa.wireGets
