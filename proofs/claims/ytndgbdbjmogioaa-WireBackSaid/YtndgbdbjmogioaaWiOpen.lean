/-
  Arguments that are a message, or bytes, opened. No function of the program here.
-/
import Derived.Test.YtndgbdbjmogioaaFlOpen
import Derived.Test.YtndgbdbjmogioaaWiRd
namespace Go.Proofs.Ytndgbdbjmogioaa.Wi
open Go.RowKit Go.ChangeShapes Go.WideShapes Go.Deep Go.Joins Go.Proofs.Ytndgbdbjmogioaa.Fl
set_option linter.unusedVariables false
set_option linter.unusedSectionVars false
section
variable {H : Type} {enc : TypeId × Value → H} {P : Program} {w : World} {base b0 : Nat} {spare : Nat → Bool} {held : Bool} {r : Reach} {v : Value} {d : DataW H} {p : List MemPlace}
/-- What the program's types are. -/
structure MTypes (P : Program) (tM tA tVs : TypeId) (m0 m1 m2 m3 m4 m5 m6 r0 r1 r2 r3 e0 e1 e2 e3 p0 p1 a0 a1 a2 a3 : Field) : Prop where
  msg : P.underlying tM = some (.struct #[m0, m1, m2, m3, m4, m5, m6])
  mcells : P.cellsOf tM = 14
  moff : m0.offset = 0 ∧ m1.offset = 1 ∧ m2.offset = 2 ∧ m3.offset = 3 ∧ m4.offset = 4 ∧ m5.offset = 8 ∧ m6.offset = 9
  mone : P.cellsOf m0.type = 1 ∧ P.cellsOf m1.type = 1 ∧ P.cellsOf m2.type = 1 ∧ P.cellsOf m3.type = 1 ∧ P.cellsOf m4.type = 4 ∧ P.cellsOf m5.type = 1 ∧ P.cellsOf m6.type = 5
  u0 : P.underlying m0.type = some (.int .i64)
  u1 : P.underlying m1.type = some (.int .i64)
  u2 : P.underlying m2.type = some (.int .i64)
  u3 : P.underlying m3.type = some (.int .i64)
  u5 : P.underlying m5.type = some .string
  rect : P.underlying m4.type = some (.struct #[r0, r1, r2, r3])
  rone : oneCellFields P #[r0, r1, r2, r3] = true
  q0 : P.underlying r0.type = some (.int .i64)
  q1 : P.underlying r1.type = some (.int .i64)
  q2 : P.underlying r2.type = some (.int .i64)
  q3 : P.underlying r3.type = some (.int .i64)
  event : P.underlying m6.type = some (.struct #[e0, e1, e2, e3])
  eoff : e0.offset = 0 ∧ e1.offset = 1 ∧ e2.offset = 2 ∧ e3.offset = 4
  eone : P.cellsOf e0.type = 1 ∧ P.cellsOf e1.type = 1 ∧ P.cellsOf e2.type = 2 ∧ P.cellsOf e3.type = 1
  x0 : P.underlying e0.type = some (.int .i64)
  x1 : P.underlying e1.type = some (.int .u32)
  point : P.underlying e2.type = some (.struct #[p0, p1])
  pone : oneCellFields P #[p0, p1] = true
  y0 : P.underlying p0.type = some (.int .i64)
  y1 : P.underlying p1.type = some (.int .i64)
  t3 : e3.type = tVs
  vals : P.underlying tVs = some (.slice tA)
  attr : P.underlying tA = some (.struct #[a0, a1, a2, a3])
  acells : P.cellsOf tA = 4
  aone : oneCellFields P #[a0, a1, a2, a3] = true
  w0 : P.underlying a0.type = some .string
  w1 : P.underlying a1.type = some .bool
  w2 : P.underlying a2.type = some (.int .i64)
  w3 : P.underlying a3.type = some .string
variable {tM tA tVs : TypeId} {m0 m1 m2 m3 m4 m5 m6 r0 r1 r2 r3 e0 e1 e2 e3 p0 p1 a0 a1 a2 a3 : Field}
theorem open_att' (T : MTypes P tM tA tVs m0 m1 m2 m3 m4 m5 m6 r0 r1 r2 r3 e0 e1 e2 e3 p0 p1 a0 a1 a2 a3) {fuel : Nat} {cs : List Value} {x : DataW H × List MemPlace} (h : DataW.trod enc P w base spare held fuel tA cs = some x) : ∃ v : Att, cs = attC v ∧ attOk v := by
  obtain ⟨y0, y1, y2, y3, n, _, hl, h0, h1, h2, h3⟩ := trod_struct4 T.attr h
  obtain ⟨o0, k0⟩ := hone_of T.aone 0 a0 rfl
  obtain ⟨o1, k1⟩ := hone_of T.aone 1 a1 rfl
  obtain ⟨o2, k2⟩ := hone_of T.aone 2 a2 rfl
  obtain ⟨o3, k3⟩ := hone_of T.aone 3 a3 rfl
  obtain ⟨c0, c1, c2, c3, rfl⟩ := list4 (hl.trans T.acells)
  obtain ⟨s0, e0, _, z0⟩ := DataW.trod_string T.w0 h0
  obtain ⟨b1, e1, _⟩ := DataW.trod_bool T.w1 h1
  obtain ⟨n2, e2, _, z2⟩ := DataW.trod_int T.w2 h2
  obtain ⟨s3, e3, _, z3⟩ := DataW.trod_string T.w3 h3
  simp [o0, k0] at e0
  simp [o1, k1] at e1
  simp [o2, k2] at e2
  simp [o3, k3] at e3
  subst e0 e1 e2 e3
  refine ⟨⟨s0.data.toList, b1, n2, s3.data.toList⟩, ?_, by rw [size_list]; exact z0, by rw [size_list]; exact z3, bounds_i64 z2⟩
  simp only [attC, bs_list]
theorem open_atts' (T : MTypes P tM tA tVs m0 m1 m2 m3 m4 m5 m6 r0 r1 r2 r3 e0 e1 e2 e3 p0 p1 a0 a1 a2 a3) {fuel : Nat} {cs : List Value} {x : DataW H × List MemPlace} (h : DataW.trod enc P w base spare held fuel tVs cs = some x) :
    ∃ (vs : List Att) (a : Option Addr) (c : Nat), cs = [.slice a vs.length c] ∧ AttsAt w (Old w.heap.size) a vs := by
  obtain ⟨l, a, c, e, hm, hc⟩ := open_elems (α := Att) (Q := fun _ v cs' => cs' = attC v ∧ attOk v) T.vals T.acells h (fun m _ i cs' x' h' => open_att' T h') (by omega) (fun i v cs' hq => by rw [hq.1]; rfl)
  refine ⟨l, a, c, e, hm, fun v hv => ?_, fun h0 => ?_⟩
  · obtain ⟨k, hk, rfl⟩ := List.getElem_of_mem hv
    obtain ⟨g, o, _, _, hq⟩ := hc (by omega)
    obtain ⟨cs', ⟨_, h2⟩, _⟩ := hq k hk
    exact h2
  · obtain ⟨g, o, e, hg, hq⟩ := hc h0
    refine ⟨g, o, e, hg, fun k hk => ?_⟩
    obtain ⟨cs', ⟨rfl, h2⟩, h3⟩ := hq k hk
    exact ⟨by simpa [attC] using h3 0 (by omega), by simpa [attC] using h3 1 (by omega), by simpa [attC] using h3 2 (by omega), by simpa [attC] using h3 3 (by omega)⟩
theorem list14 {cs : List Value} (h : cs.length = 14) : ∃ c0 c1 c2 c3 c4 c5 c6 c7 c8 c9 c10 c11 c12 c13, cs = [c0, c1, c2, c3, c4, c5, c6, c7, c8, c9, c10, c11, c12, c13] := by
  match cs, h with
  | [c0, c1, c2, c3, c4, c5, c6, c7, c8, c9, c10, c11, c12, c13], _ => exact ⟨c0, c1, c2, c3, c4, c5, c6, c7, c8, c9, c10, c11, c12, c13, rfl⟩
/-- A message's fourteen cells. -/
theorem open_msg_cells (T : MTypes P tM tA tVs m0 m1 m2 m3 m4 m5 m6 r0 r1 r2 r3 e0 e1 e2 e3 p0 p1 a0 a1 a2 a3) {fuel : Nat} {cs : List Value} {x : DataW H × List MemPlace} (h : DataW.trod enc P w base spare held fuel tM cs = some x) :
    ∃ (m : Msg) (sf : ByteArray) (a : Option Addr) (c : Nat), cs = [.int .i64 m.kind, .int .i64 m.sub, .int .i64 m.ver, .int .i64 m.home, .int .i64 m.x1, .int .i64 m.y1, .int .i64 m.x2, .int .i64 m.y2, .string sf, .int .i64 m.ev.pub, .int .u32 (m.ev.seq : Nat), .int .i64 m.ev.x, .int .i64 m.ev.y, .slice a m.ev.attrs.length c] ∧ sf.data.toList = m.flt ∧ evR m.ev ∧ AttsAt w (Old w.heap.size) a m.ev.attrs := by
  obtain ⟨xs, n, rfl, _, hl, hlen, hf⟩ := DataW.trod_struct T.msg h
  obtain ⟨o0, o1, o2, o3, o4, o5, o6⟩ := T.moff
  obtain ⟨k0, k1, k2, k3, k4, k5, k6⟩ := T.mone
  obtain ⟨c0, c1, c2, c3, c4, c5, c6, c7, c8, c9, c10, c11, c12, c13, rfl⟩ := list14 (hl.trans T.mcells)
  have g := fun i (f : Field) (hi : #[m0, m1, m2, m3, m4, m5, m6][i]? = some f) => hf i f hi
  have hxl : xs.length = 7 := hlen
  have g0 := g 0 m0 rfl
  have g1 := g 1 m1 rfl
  have g2 := g 2 m2 rfl
  have g3 := g 3 m3 rfl
  have g4 := g 4 m4 rfl
  have g5 := g 5 m5 rfl
  have g6 := g 6 m6 rfl
  rw [List.getElem?_eq_getElem (by omega)] at g0 g1 g2 g3 g4 g5 g6
  clear g hf h
  rw [o0, k0] at g0
  rw [o1, k1] at g1
  rw [o2, k2] at g2
  rw [o3, k3] at g3
  rw [o4, k4] at g4
  rw [o5, k5] at g5
  rw [o6, k6] at g6
  simp only [List.drop_zero, List.drop_succ_cons, List.take_succ_cons, List.take_zero] at g0 g1 g2 g3 g4 g5 g6
  obtain ⟨n0, j0, _, z0⟩ := DataW.trod_int T.u0 g0
  obtain ⟨n1, j1, _, z1⟩ := DataW.trod_int T.u1 g1
  obtain ⟨n2, j2, _, z2⟩ := DataW.trod_int T.u2 g2
  obtain ⟨n3, j3, _, z3⟩ := DataW.trod_int T.u3 g3
  obtain ⟨s5, j5, _, z5⟩ := DataW.trod_string T.u5 g5
  simp only [List.cons.injEq, and_true] at j0 j1 j2 j3 j5
  obtain ⟨y0, y1, y2, y3, nr, _, hlr, h0, h1, h2, h3⟩ := trod_struct4 T.rect g4
  obtain ⟨q0, l0⟩ := hone_of T.rone 0 r0 rfl
  obtain ⟨q1, l1⟩ := hone_of T.rone 1 r1 rfl
  obtain ⟨q2, l2⟩ := hone_of T.rone 2 r2 rfl
  obtain ⟨q3, l3⟩ := hone_of T.rone 3 r3 rfl
  obtain ⟨i0, f0, _, -⟩ := DataW.trod_int T.q0 h0
  obtain ⟨i1, f1, _, -⟩ := DataW.trod_int T.q1 h1
  obtain ⟨i2, f2, _, -⟩ := DataW.trod_int T.q2 h2
  obtain ⟨i3, f3, _, -⟩ := DataW.trod_int T.q3 h3
  simp [q0, l0] at f0
  simp [q1, l1] at f1
  simp [q2, l2] at f2
  simp [q3, l3] at f3
  clear h0 h1 h2 h3 g0 g1 g2 g3 g4 g5
  obtain ⟨ys, ne, rfl, _, hle, hylen, hfe⟩ := DataW.trod_struct T.event g6
  obtain ⟨o0', o1', o2', o3'⟩ := T.eoff
  obtain ⟨k0', k1', k2', k3'⟩ := T.eone
  have g := fun i (f : Field) (hi : #[e0, e1, e2, e3][i]? = some f) => hfe i f hi
  have hyl : ys.length = 4 := hylen
  have g0 := g 0 e0 rfl
  have g1 := g 1 e1 rfl
  have g2 := g 2 e2 rfl
  have g3 := g 3 e3 rfl
  rw [List.getElem?_eq_getElem (by omega)] at g0 g1 g2 g3
  clear g hfe g6
  rw [o0', k0'] at g0
  rw [o1', k1'] at g1
  rw [o2', k2'] at g2
  rw [o3', k3', T.t3] at g3
  simp only [List.drop_zero, List.drop_succ_cons, List.take_succ_cons, List.take_zero] at g0 g1 g2 g3
  obtain ⟨n9, j9, _, z9⟩ := DataW.trod_int T.x0 g0
  obtain ⟨n10, j10, _, z10⟩ := DataW.trod_int T.x1 g1
  obtain ⟨atts, a, c, j13, hA⟩ := open_atts' T g3
  simp only [List.cons.injEq, and_true] at j9 j10 j13
  obtain ⟨zs, np, rfl, _, hlp, hzlen, hfp⟩ := DataW.trod_struct T.point g2
  obtain ⟨q0', l0'⟩ := hone_of T.pone 0 p0 rfl
  obtain ⟨q1', l1'⟩ := hone_of T.pone 1 p1 rfl
  have hzl : zs.length = 2 := hzlen
  have b0' := hfp 0 p0 rfl
  have b1' := hfp 1 p1 rfl
  rw [List.getElem?_eq_getElem (by omega)] at b0' b1'
  obtain ⟨n11, j11, _, -⟩ := DataW.trod_int T.y0 b0'
  obtain ⟨n12, j12, _, -⟩ := DataW.trod_int T.y1 b1'
  simp [q0', l0'] at j11
  simp [q1', l1'] at j12
  subst j0 j1 j2 j3 j5 j9 j10 j13 f0 f1 f2 f3 j11 j12
  have hu : 0 ≤ n10 ∧ n10 ≤ 4294967295 := by
    have h1 : IntKind.u32.min = 0 := rfl
    have h2 : IntKind.u32.max = 4294967295 := rfl
    simp only [Lit.wf, Bool.and_eq_true, decide_eq_true_eq] at z10
    omega
  refine ⟨⟨n0, n1, n2, n3, i0, i1, i2, i3, s5.data.toList, ⟨n9, n10.toNat, n11, n12, atts⟩⟩, s5, a, c, ?_, rfl, ⟨by show n10.toNat ≤ 4294967295; omega, fun v hv => (hA.2.1 v hv).2.2⟩, hA⟩
  simp only
  rw [show ((n10.toNat : Nat) : Int) = n10 by omega]
theorem open_msg (T : MTypes P tM tA tVs m0 m1 m2 m3 m4 m5 m6 r0 r1 r2 r3 e0 e1 e2 e3 p0 p1 a0 a1 a2 a3) (hv : Value.okWide P w r b0 tM v) (h : DataW.Trod enc P w base spare held tM v d p) :
    ∃ (m : Msg) (sf : ByteArray) (a : Option Addr) (c : Nat), v = .agg #[.int .i64 m.kind, .int .i64 m.sub, .int .i64 m.ver, .int .i64 m.home, .int .i64 m.x1, .int .i64 m.y1, .int .i64 m.x2, .int .i64 m.y2, .string sf, .int .i64 m.ev.pub, .int .u32 (m.ev.seq : Nat), .int .i64 m.ev.x, .int .i64 m.ev.y, .slice a m.ev.attrs.length c] ∧ sf.data.toList = m.flt ∧ evR m.ev ∧ AttsAt w (Old w.heap.size) a m.ev.attrs := by
  obtain ⟨cs, rfl, hn⟩ := okWide_struct T.msg hv
  obtain ⟨fuel, hf⟩ := h
  obtain ⟨m, sf, a, c, e, h1, h2, h3⟩ := open_msg_cells T hf
  refine ⟨m, sf, a, c, ?_, h1, h2, h3⟩
  congr 1
  apply Array.ext'
  simpa [Value.cells] using e
/-- Bytes. -/
theorem open_bytes {t e : TypeId} (ht : P.underlying t = some (.slice e)) (he : P.underlying e = some (.int .u8)) (hc : P.cellsOf e = 1) (hv : Value.okWide P w r b0 t v) (h : DataW.Trod enc P w base spare held t v d p) :
    ∃ (l : List UInt8) (a : Option Addr) (c : Nat), v = .slice a l.length c ∧ l.length ≤ c ∧ BytesAt w (Old w.heap.size) a l := by
  obtain ⟨x, n, cap, rfl⟩ := okWide_slice ht hv
  obtain ⟨fuel, hf⟩ := h
  obtain ⟨l, a, c, e1, hm, hq⟩ := open_elems (α := UInt8) (Q := fun _ v cs' => cs' = [.int .u8 (v.toNat : Int)]) ht hc hf (fun m _ i cs' x' h' => by
    obtain ⟨n0, j0, _, z0⟩ := DataW.trod_int he h'
    have hb : 0 ≤ n0 ∧ n0 < 256 := by
      have h1 : IntKind.u8.min = 0 := rfl
      have h2 : IntKind.u8.max = 255 := rfl
      simp only [Lit.wf, Bool.and_eq_true, decide_eq_true_eq] at z0
      omega
    refine ⟨UInt8.ofNat n0.toNat, ?_⟩
    rw [j0]
    have : (UInt8.ofNat n0.toNat).toNat = n0.toNat := by
      rw [UInt8.toNat_ofNat']
      omega
    rw [this, show ((n0.toNat : Nat) : Int) = n0 by omega]) (by omega) (fun i v cs' hq => by rw [hq]; rfl)
  have hle : l.length ≤ c := by
    rcases DataW.trod_slice ht hf with ⟨e2, _⟩ | ⟨a', len', cap', _, _, _, _, e2, _, _, hl, _⟩
    · rw [e1] at e2
      simp only [List.cons.injEq, Value.slice.injEq, and_true] at e2
      omega
    · rw [e1] at e2
      simp only [List.cons.injEq, Value.slice.injEq, and_true] at e2
      omega
  refine ⟨l, a, c, ?_, hle, hm, fun h0 => ?_⟩
  · simp [Value.cells] at e1
    obtain ⟨rfl, rfl, rfl⟩ := e1
    rfl
  · obtain ⟨g, o, e, hg, hq⟩ := hq h0
    refine ⟨g, o, e, hg, fun k hk => ?_⟩
    obtain ⟨cs', rfl, h3⟩ := hq k hk
    simpa using h3 0 (by omega)
end
end Go.Proofs.Ytndgbdbjmogioaa.Wi
