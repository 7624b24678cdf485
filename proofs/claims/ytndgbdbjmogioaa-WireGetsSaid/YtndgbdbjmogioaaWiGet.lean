/-
  Contract of Get of package wire: bytes are read as a message, or why they are none. Memory that was there is left as it was.
-/
import Derived.Test.YtndgbdbjmogioaaWiRdM
import Derived.Test.YtndgbdbjmogioaaWiMay
namespace Go.Proofs.Ytndgbdbjmogioaa.Wi
open Go.RowKit Go.Proofs.Ytndgbdbjmogioaa.Fl
set_option linter.unusedVariables false
set_option linter.unusedSimpArgs false

/-- What Get tells. -/
def GetEnd (l : List UInt8) (w w' : World) (e : Ending) : Prop :=
  ∃ a c, e = .returned (.tuple #[msgV (readM l).2 a c, errW (readM l).1]) ∧ AttsAt w' (Old w'.heap.size) a (readM l).2.ev.attrs ∧ Below w.heap.size w w'
set_option maxHeartbeats 8000000
set_option maxRecDepth 100000
theorem ret14b {s t : Nat} {fn : Func} {R : Ending → World → Prop} {a : Act} {V : World} {q : Nat} {u : TypeId} {x0 x1 x2 x3 x4 x5 x6 x7 x8 x9 x10 x11 x12 x13 b : Value} (hr : fn.results = #[.cell s 31, .tmp t]) (h2 : a.tmps.getD s undef = .pointer (some ⟨q, 0, none⟩)) (h3 : a.tmps.getD t undef = b) (hb : Bq V q u #[x0, x1, x2, x3, x4, x5, x6, x7, x8, x9, x10, x11, x12, x13]) (hd : a.defers = [])
    (hR : R (.returned (.tuple #[.agg #[x0, x1, x2, x3, x4, x5, x6, x7, x8, x9, x10, x11, x12, x13], b])) V) : bodyPost Try.prog fn R .ret a V := by
  obtain ⟨b0, b1, b2, b3, b4, b5, b6, b7, b8, b9, b10, b11, b12, b13⟩ := hb.c14
  refine bodyPost_ret (v := .tuple #[.agg #[x0, x1, x2, x3, x4, x5, x6, x7, x8, x9, x10, x11, x12, x13], b]) ?_ hd hR
  rw [Array.getD_eq_getD_getElem?] at h2 h3
  simp [results, hr, go_sem, h2, h3, b0, b1, b2, b3, b4, b5, b6, b7, b8, b9, b10, b11, b12, b13]
theorem gr_below {w W V : World} {p : Nat} (h : w.grownBy W (some p)) (hb : Below W.heap.size W V) : w.grownBy V (some p) :=
  ⟨hb.os.trans h.os, hb.tape.trans h.tape, hb.output.trans h.output, Nat.le_trans h.size hb.size, fun k hk hne => (hb.block k (Nat.lt_of_lt_of_le hk h.size)).trans (h.block k hk hne)⟩
theorem RdW.later {W V : World} {p z : Nat} {s : St} (h : RdW W p z s) (hb : Below W.heap.size W V) : RdW V p z s := h.keep (hb.block p h.lt) fun g hg => hb.block g (by have := h.lt; have := h.zp; omega)
theorem zero_V : msgV msg0 none 0 = .agg #[.int .i64 0, .int .i64 0, .int .i64 0, .int .i64 0, .int .i64 0, .int .i64 0, .int .i64 0, .int .i64 0, .string ⟨#[]⟩, .int .i64 0, .int .u32 0, .int .i64 0, .int .i64 0, .slice none 0 0] := rfl
theorem get_any (a0 : Option Addr) (c0 : Nat) (l : List UInt8) (w : World) (h : BytesAt w (Old w.heap.size) a0 l) (hc : l.length ≤ c0) :
    Calls Try.prog 14 #[.slice a0 l.length c0] w fun e w' => GetEnd l w w' e := by
  obtain ⟨p, hp⟩ : ∃ p, p = w.heap.size + 1 := ⟨_, rfl⟩
  obtain ⟨w1, hw1⟩ : ∃ W0 : World, W0 = w.alloc (.cells #[.int .i64 0, .int .i64 0, .int .i64 0, .int .i64 0, .int .i64 0, .int .i64 0, .int .i64 0, .int .i64 0, .string ⟨#[]⟩, .int .i64 0, .int .u32 0, .int .i64 0, .int .i64 0, .slice none 0 0] 31) := ⟨_, rfl⟩
  have hs1 : w1.heap.size = p := by rw [hw1, hp]; simp
  obtain ⟨n0, hn0⟩ : ∃ n, n = l.length := ⟨_, rfl⟩
  obtain ⟨w2, hw2⟩ : ∃ W0 : World, W0 = w1.alloc (.cells #[.slice a0 n0 c0, .nilIface] 66) := ⟨_, rfl⟩
  have Q2 := Lib.hid (show Bq w2 w.heap.size 31 #[.int .i64 0, .int .i64 0, .int .i64 0, .int .i64 0, .int .i64 0, .int .i64 0, .int .i64 0, .int .i64 0, .string ⟨#[]⟩, .int .i64 0, .int .u32 0, .int .i64 0, .int .i64 0, .slice none 0 0] by rw [hw2, hw1]; exact (Bq.new _ _ _).alloc _)
  have G2 := Lib.hid (show w.grownBy w2 (some p) by rw [hw2, hw1]; exact gr_al (World.grownBy_alloc _ _ _) _)
  have R2 := Lib.hid (show RdW w2 p w.heap.size (0, l) by
    refine ⟨a0, c0, ?_, hc, h.far fun g hg => ⟨hg, G2.out.block g hg (by have : g < w.heap.size := hg; intro e; cases e; omega)⟩, by omega⟩
    simp only
    rw [hw2, ← hs1, ← hn0]
    exact heap_alloc_new _ _)
  have C := message_rd p w.heap.size (0, l) w2 R2.out
  obtain ⟨m, t, hm⟩ : ∃ m t, msgC (0, l) = (m, t) := ⟨_, _, rfl⟩
  obtain ⟨e, r⟩ := t
  rw [hm] at C
  have HC := Lib.hid C
  have HRD := Lib.hid (show readM l = if e = 0 then (if r.length = 0 ∧ msgB m = true then (0, m) else (7, msg0)) else (e, msg0) by rw [← end_C, hm]; rfl)
  have HW1 := Lib.hid hw1
  have HW2 := Lib.hid hw2
  have HPS := Lib.hid hp
  have HS1 := Lib.hid hs1
  have hne : ¬ w.heap.size = p := by omega
  rw [← hn0]
  clear hm hw1 hw2 C hs1 h hc hn0
  go_enter Try.func14, Try.ntmps14
  go_wp2_with fail
  rw [← HW1.out, ← HPS.out, ← HW2.out]
  clear hp
  refine Calls.mono HC.out ?_
  rintro x w3 ⟨a, c, rfl, hr3, hg3, ha3⟩
  have Q3 := Lib.hid (Q2.out.gr hg3 hne)
  have G3 := Lib.hid (G2.out.trans hg3)
  have HS3 := Lib.hid (show p < w3.heap.size from hr3.lt)
  obtain ⟨sf, ef, hsf⟩ := bs_of2 m.flt
  have HSF := Lib.hid ef
  have HSD := Lib.hid hsf
  unfold msgV
  rw [ef]
  obtain ⟨w4, hw4⟩ : ∃ W0 : World, W0 = w3.alloc (.cells #[.int .i64 m.kind, .int .i64 m.sub, .int .i64 m.ver, .int .i64 m.home, .int .i64 m.x1, .int .i64 m.y1, .int .i64 m.x2, .int .i64 m.y2, .string sf, .int .i64 m.ev.pub, .int .u32 (m.ev.seq : Nat), .int .i64 m.ev.x, .int .i64 m.ev.y, .slice a m.ev.attrs.length c] 31) := ⟨_, rfl⟩
  have B4 := Lib.hid (show Below w3.heap.size w3 w4 by rw [hw4]; exact below_alloc _ _)
  have G4 := Lib.hid (gr_below G3.out B4.out)
  have Q4 := Lib.hid (Q3.out.later B4.out)
  have P4 := Lib.hid (show Bq w4 w3.heap.size 31 #[.int .i64 m.kind, .int .i64 m.sub, .int .i64 m.ver, .int .i64 m.home, .int .i64 m.x1, .int .i64 m.y1, .int .i64 m.x2, .int .i64 m.y2, .string sf, .int .i64 m.ev.pub, .int .u32 (m.ev.seq : Nat), .int .i64 m.ev.x, .int .i64 m.ev.y, .slice a m.ev.attrs.length c] by rw [hw4]; exact Bq.new _ _ _)
  have R4 := Lib.hid (hr3.later B4.out)
  have A4 := Lib.hid (show AttsAt w4 (fun g => g < w4.heap.size ∧ w.heap.size < g) a m.ev.attrs from ha3.far fun g hg => ⟨⟨Nat.lt_of_lt_of_le hg.2 B4.out.size, by have := Q2.out.lt; omega⟩, B4.out.block g hg.2⟩)
  have HW4 := Lib.hid hw4
  have hne3 : ¬ w3.heap.size = p := by have := HS3.out; omega
  have hne30 : ¬ w3.heap.size = w.heap.size := by have := HS3.out; have := HPS.out; omega
  have hlt3 : p < w3.heap.size := HS3.out
  have hlt30 : w.heap.size < w3.heap.size := by have := HS3.out; have := HPS.out; omega
  have hr4 := R4.out
  obtain ⟨ar, cr, k1, k2, k3, k4⟩ := hr4
  simp only at k1 k2 k3
  obtain ⟨n, hn⟩ : ∃ n, n = r.length := ⟨_, rfl⟩
  rw [← hn] at k1 HRD
  have HNN := Lib.hid hn
  have hm : n ≤ 9223372036854775807 := by have := k3.1; unfold maxLen at this; omega
  obtain ⟨ev, hev⟩ : ∃ v, v = errW e := ⟨_, rfl⟩
  rw [← hev] at k1
  have HEV := Lib.hid hev
  obtain ⟨c0', c1', f0', f1'⟩ := rd_cells k1
  have c0'3 : w3.cell? ⟨p, 0, none⟩ = some (.slice ar n cr) := by
    rw [← c0']
    exact (World.cell?_of_block (w := w3) (w' := w4) (a := ⟨p, 0, none⟩) (B4.out.block p hlt3)).symm
  clear hw4 hr3 hg3 ha3 ef hsf k1 k2 k3 k4 hn hev c0' c1' f0' f1'
  by_cases hn0 : 0 < n
  · have hz0 : (0 : Int) < (n : Int) := by omega
    have HN0 := Lib.hid (show ¬ n = 0 by omega)
    go_wp2_with fail
    rw [← HW4.out]
    have CF := Lib.hid (fail_any p w.heap.size 7 (by decide) (e, r) w4 R4.out)
    go_wp2_with fail
    refine Calls.mono CF.out ?_
    rintro x w6 ⟨rfl, hr6, hg6⟩
    have hr6 : RdW w6 p w.heap.size (if e = 0 then 7 else e, r) := hr6
    obtain ⟨E, hE⟩ : ∃ E, E = if e = 0 then 7 else e := ⟨_, rfl⟩
    rw [← hE] at hr6
    have HE5 := Lib.hid (show E ≠ 0 by rw [hE]; split <;> omega)
    have R6 := Lib.hid hr6
    have Q6 := Lib.hid (Q4.out.gr hg6 hne)
    have G6 := Lib.hid (G4.out.trans hg6)
    have HEE := Lib.hid hE
    clear hr6 hg6 hE
    obtain ⟨ar5, cr5, j1, j2, j3, j4⟩ := R6.out
    simp only at j1
    obtain ⟨d0, d1, g0, g1⟩ := rd_cells j1
    clear j1 j2 j3 j4
    rw [show errW E = .iface 40 (.int .i64 (E : Nat)) by unfold errW; rw [if_neg HE5.out]] at d1
    have q5 := neq_err ((E : Nat) : Int)
    go_wp2_with fail
    have HS0 : (fun W => W.cell? ⟨p, 1, none⟩ = some (.iface 40 (.int .i64 (E : Nat))) ∧ ∃ cs, Bq W w.heap.size 31 cs ∧ cs.size = 14) w6.drew := ⟨d1, _, Q6.out, rfl⟩
    have QD := Lib.hid (show Bq w6.drew w.heap.size 31 #[.int .i64 0, .int .i64 0, .int .i64 0, .int .i64 0, .int .i64 0, .int .i64 0, .int .i64 0, .int .i64 0, .string ⟨#[]⟩, .int .i64 0, .int .u32 0, .int .i64 0, .int .i64 0, .slice none 0 0] from Q6.out)
    refine wp_region_held_drew (S := (fun W => W.cell? ⟨p, 1, none⟩ = some (.iface 40 (.int .i64 (E : Nat))) ∧ ∃ cs, Bq W w.heap.size 31 cs ∧ cs.size = 14)) (by kernel_rfl) HS0 (fun hHeld => ?_)
    clear d0 d1 g0 g1 HS0
    refine wpAnyH_take (i := 0) (v := ?vA0) rfl (by kernel_rfl) (by kernel_rfl) (by kernel_rfl) (fun _ _ _ h => h) (Or.inl ⟨by rfl, ?yA0⟩) hHeld ?rA0
    case yA0 => (intro W hSw; simp only [List.getElem_toArray, List.getElem_cons_succ, List.getElem_cons_zero]; go_simp; try (with_reducible rfl))
    simp only [List.getElem_toArray, List.getElem_cons_succ, List.getElem_cons_zero, Act.put, List.setIfInBounds_toArray, List.set_cons_zero, List.set_cons_succ]
    refine wpAnyH_take (i := 1) (v := ?vA1) rfl (by kernel_rfl) (by kernel_rfl) (by kernel_rfl) (fun _ _ _ h => h) (Or.inl ⟨by rfl, ?yA1⟩) hHeld ?rA1
    case yA1 => (intro W hSw; simp only [List.getElem_toArray, List.getElem_cons_succ, List.getElem_cons_zero]; go_simp; try (with_reducible rfl))
    simp only [List.getElem_toArray, List.getElem_cons_succ, List.getElem_cons_zero, Act.put, List.setIfInBounds_toArray, List.set_cons_zero, List.set_cons_succ]
    refine wpAnyH_take (i := 2) (v := ?vA2) rfl (by kernel_rfl) (by kernel_rfl) (by kernel_rfl) (fun _ _ _ h => h) (Or.inl ⟨by rfl, ?yA2⟩) hHeld ?rA2
    case yA2 => (intro W hSw; simp only [List.getElem_toArray, List.getElem_cons_succ, List.getElem_cons_zero]; go_simp; try (with_reducible rfl))
    simp only [List.getElem_toArray, List.getElem_cons_succ, List.getElem_cons_zero, Act.put, List.setIfInBounds_toArray, List.set_cons_zero, List.set_cons_succ]
    refine wpAnyH_take (i := 3) (v := ?vA3) rfl (by kernel_rfl) (by kernel_rfl) (by kernel_rfl) (fun _ _ _ h => h) (Or.inl ⟨by rfl, ?yA3⟩) hHeld ?rA3
    case yA3 => (intro W hSw; simp only [List.getElem_toArray, List.getElem_cons_succ, List.getElem_cons_zero]; go_simp; try (with_reducible rfl))
    simp only [List.getElem_toArray, List.getElem_cons_succ, List.getElem_cons_zero, Act.put, List.setIfInBounds_toArray, List.set_cons_zero, List.set_cons_succ]
    refine wpAnyH_take (i := 4) (v := ?vA4) rfl (by kernel_rfl) (by kernel_rfl) (by kernel_rfl) (fun _ _ _ h => h) (Or.inl ⟨by rfl, ?yA4⟩) hHeld ?rA4
    case yA4 => (intro W hSw; simp only [List.getElem_toArray, List.getElem_cons_succ, List.getElem_cons_zero]; go_simp; try (with_reducible rfl))
    simp only [List.getElem_toArray, List.getElem_cons_succ, List.getElem_cons_zero, Act.put, List.setIfInBounds_toArray, List.set_cons_zero, List.set_cons_succ]
    refine wpAnyH_ready (rs := [5]) (by kernel_rfl) (by simp) (AllReadyH.cons rfl (fun K hK => ?_) AllReadyH.nil)
    simp only [List.getElem_toArray, List.getElem_cons_succ, List.getElem_cons_zero]
    refine wp_store_row _ _ _ rfl w.heap.size #[.int .i64 0, .int .i64 0, .int .i64 0, .int .i64 0, .int .i64 0, .int .i64 0, .int .i64 0, .int .i64 0, .string ⟨#[]⟩, .int .i64 0, .int .u32 0, .int .i64 0, .int .i64 0, .slice none 0 0] rfl rfl _ _ QD.out (by kernel_rfl) rfl (by simp [Value.oneCell']) ?_
    refine hK.out _ _ (⟨(World.cell?_of_block (w := w6.drew) (a := ⟨p, 1, none⟩) (setRow_other _ _ _ _ (fun e => hne e.symm))).trans hHeld.1, _, QD.out.row _, rfl⟩) (fun hHeld1 => ?_)
    clear hK K hHeld
    have hHeld := hHeld1; clear hHeld1
    try simp only [List.getElem_toArray, List.getElem_cons_succ, List.getElem_cons_zero, Act.put, List.setIfInBounds_toArray, List.set_cons_zero, List.set_cons_succ]
    refine wpAnyH_take (i := 6) (v := ?vA6) rfl (by kernel_rfl) (by kernel_rfl) (by kernel_rfl) (fun _ _ _ h => h) (Or.inl ⟨by rfl, ?yA6⟩) hHeld ?rA6
    case yA6 => (intro W hSw; simp only [List.getElem_toArray, List.getElem_cons_succ, List.getElem_cons_zero]; go_simp; try (with_reducible rfl))
    simp only [List.getElem_toArray, List.getElem_cons_succ, List.getElem_cons_zero, Act.put, List.setIfInBounds_toArray, List.set_cons_zero, List.set_cons_succ]
    refine wpAnyH_done (by kernel_rfl) ?_ _
    clear hHeld
    go_wp2_with fail
    refine ret14b Try.results14 rfl rfl (QD.out.row _) rfl ?_
    have HRR := Lib.hid (show readM l = (E, msg0) by rw [HRD.out, HEE.out]; by_cases h : e = 0 <;> simp [h, HN0.out])
    refine ⟨none, 0, ?_, ?_, ?_⟩
    · rw [HRR.out, zero_V]
      unfold errW
      rw [if_neg HE5.out]
      rfl
    · rw [HRR.out]
      exact atts_none2 _ _ _
    · exact ⟨G6.out.os, G6.out.tape, G6.out.output, by have := G6.out.size; simpa using this, fun k hk => (setRow_other _ _ _ _ (by omega)).trans (G6.out.block k hk (by have := HPS.out; intro e; cases e; omega))⟩
  · have hz0 : ¬ (0 : Int) < (n : Int) := by omega
    obtain rfl : n = 0 := by omega
    obtain ⟨tm, htm⟩ : ∃ b, msgB m = b := ⟨_, rfl⟩
    have CM := may_any m sf HSD.out a c w4 (A4.out.far fun g hg => ⟨hg.1, rfl⟩)
    rw [htm] at CM
    rw [htm] at HRD
    have HCM := Lib.hid CM
    have HTM := Lib.hid htm
    clear CM htm
    obtain ⟨c0, c1, c2, c3, c4, c5, c6, c7, c8, c9, c10, c11, c12, c13⟩ := P4.out.c14
    go_wp2_with fail
    rw [← HW4.out]
    refine Calls.mono HCM.out ?_
    rintro x w5 ⟨rfl, hb⟩
    have G5 := Lib.hid (gr_below G4.out hb)
    have Q5 := Lib.hid (Q4.out.later hb)
    have P5 := Lib.hid (P4.out.later hb)
    have R5 := Lib.hid (R4.out.later hb)
    have A5 := Lib.hid (show AttsAt w5 (fun g => g < w5.heap.size ∧ w.heap.size < g) a m.ev.attrs from A4.out.far fun g hg => ⟨⟨Nat.lt_of_lt_of_le hg.1 hb.size, hg.2⟩, hb.block g hg.1⟩)
    clear hb c0 c1 c2 c3 c4 c5 c6 c7 c8 c9 c10 c11 c12 c13 c0'3
    cases tm
    · have CF := Lib.hid (fail_any p w.heap.size 7 (by decide) (e, r) w5 R5.out)
      go_wp2_with fail
      refine Calls.mono CF.out ?_
      rintro x w6 ⟨rfl, hr6, hg6⟩
      have hr6 : RdW w6 p w.heap.size (if e = 0 then 7 else e, r) := hr6
      obtain ⟨E, hE⟩ : ∃ E, E = if e = 0 then 7 else e := ⟨_, rfl⟩
      rw [← hE] at hr6
      have HE5 := Lib.hid (show E ≠ 0 by rw [hE]; split <;> omega)
      have R6 := Lib.hid hr6
      have Q6 := Lib.hid (Q5.out.gr hg6 hne)
      have G6 := Lib.hid (G5.out.trans hg6)
      have HEE := Lib.hid hE
      clear hr6 hg6 hE
      obtain ⟨ar5, cr5, j1, j2, j3, j4⟩ := R6.out
      simp only at j1
      obtain ⟨d0, d1, g0, g1⟩ := rd_cells j1
      clear j1 j2 j3 j4
      rw [show errW E = .iface 40 (.int .i64 (E : Nat)) by unfold errW; rw [if_neg HE5.out]] at d1
      have q5 := neq_err ((E : Nat) : Int)
      go_wp2_with fail
      have HS0 : (fun W => W.cell? ⟨p, 1, none⟩ = some (.iface 40 (.int .i64 (E : Nat))) ∧ ∃ cs, Bq W w.heap.size 31 cs ∧ cs.size = 14) w6.drew := ⟨d1, _, Q6.out, rfl⟩
      have QD := Lib.hid (show Bq w6.drew w.heap.size 31 #[.int .i64 0, .int .i64 0, .int .i64 0, .int .i64 0, .int .i64 0, .int .i64 0, .int .i64 0, .int .i64 0, .string ⟨#[]⟩, .int .i64 0, .int .u32 0, .int .i64 0, .int .i64 0, .slice none 0 0] from Q6.out)
      refine wp_region_held_drew (S := (fun W => W.cell? ⟨p, 1, none⟩ = some (.iface 40 (.int .i64 (E : Nat))) ∧ ∃ cs, Bq W w.heap.size 31 cs ∧ cs.size = 14)) (by kernel_rfl) HS0 (fun hHeld => ?_)
      clear d0 d1 g0 g1 HS0
      refine wpAnyH_take (i := 0) (v := ?vB0) rfl (by kernel_rfl) (by kernel_rfl) (by kernel_rfl) (fun _ _ _ h => h) (Or.inl ⟨by rfl, ?yB0⟩) hHeld ?rB0
      case yB0 => (intro W hSw; simp only [List.getElem_toArray, List.getElem_cons_succ, List.getElem_cons_zero]; go_simp; try (with_reducible rfl))
      simp only [List.getElem_toArray, List.getElem_cons_succ, List.getElem_cons_zero, Act.put, List.setIfInBounds_toArray, List.set_cons_zero, List.set_cons_succ]
      refine wpAnyH_take (i := 1) (v := ?vB1) rfl (by kernel_rfl) (by kernel_rfl) (by kernel_rfl) (fun _ _ _ h => h) (Or.inl ⟨by rfl, ?yB1⟩) hHeld ?rB1
      case yB1 => (intro W hSw; simp only [List.getElem_toArray, List.getElem_cons_succ, List.getElem_cons_zero]; go_simp; try (with_reducible rfl))
      simp only [List.getElem_toArray, List.getElem_cons_succ, List.getElem_cons_zero, Act.put, List.setIfInBounds_toArray, List.set_cons_zero, List.set_cons_succ]
      refine wpAnyH_take (i := 2) (v := ?vB2) rfl (by kernel_rfl) (by kernel_rfl) (by kernel_rfl) (fun _ _ _ h => h) (Or.inl ⟨by rfl, ?yB2⟩) hHeld ?rB2
      case yB2 => (intro W hSw; simp only [List.getElem_toArray, List.getElem_cons_succ, List.getElem_cons_zero]; go_simp; try (with_reducible rfl))
      simp only [List.getElem_toArray, List.getElem_cons_succ, List.getElem_cons_zero, Act.put, List.setIfInBounds_toArray, List.set_cons_zero, List.set_cons_succ]
      refine wpAnyH_take (i := 3) (v := ?vB3) rfl (by kernel_rfl) (by kernel_rfl) (by kernel_rfl) (fun _ _ _ h => h) (Or.inl ⟨by rfl, ?yB3⟩) hHeld ?rB3
      case yB3 => (intro W hSw; simp only [List.getElem_toArray, List.getElem_cons_succ, List.getElem_cons_zero]; go_simp; try (with_reducible rfl))
      simp only [List.getElem_toArray, List.getElem_cons_succ, List.getElem_cons_zero, Act.put, List.setIfInBounds_toArray, List.set_cons_zero, List.set_cons_succ]
      refine wpAnyH_take (i := 4) (v := ?vB4) rfl (by kernel_rfl) (by kernel_rfl) (by kernel_rfl) (fun _ _ _ h => h) (Or.inl ⟨by rfl, ?yB4⟩) hHeld ?rB4
      case yB4 => (intro W hSw; simp only [List.getElem_toArray, List.getElem_cons_succ, List.getElem_cons_zero]; go_simp; try (with_reducible rfl))
      simp only [List.getElem_toArray, List.getElem_cons_succ, List.getElem_cons_zero, Act.put, List.setIfInBounds_toArray, List.set_cons_zero, List.set_cons_succ]
      refine wpAnyH_ready (rs := [5]) (by kernel_rfl) (by simp) (AllReadyH.cons rfl (fun K hK => ?_) AllReadyH.nil)
      simp only [List.getElem_toArray, List.getElem_cons_succ, List.getElem_cons_zero]
      refine wp_store_row _ _ _ rfl w.heap.size #[.int .i64 0, .int .i64 0, .int .i64 0, .int .i64 0, .int .i64 0, .int .i64 0, .int .i64 0, .int .i64 0, .string ⟨#[]⟩, .int .i64 0, .int .u32 0, .int .i64 0, .int .i64 0, .slice none 0 0] rfl rfl _ _ QD.out (by kernel_rfl) rfl (by simp [Value.oneCell']) ?_
      refine hK.out _ _ (⟨(World.cell?_of_block (w := w6.drew) (a := ⟨p, 1, none⟩) (setRow_other _ _ _ _ (fun e => hne e.symm))).trans hHeld.1, _, QD.out.row _, rfl⟩) (fun hHeld1 => ?_)
      clear hK K hHeld
      have hHeld := hHeld1; clear hHeld1
      try simp only [List.getElem_toArray, List.getElem_cons_succ, List.getElem_cons_zero, Act.put, List.setIfInBounds_toArray, List.set_cons_zero, List.set_cons_succ]
      refine wpAnyH_take (i := 6) (v := ?vB6) rfl (by kernel_rfl) (by kernel_rfl) (by kernel_rfl) (fun _ _ _ h => h) (Or.inl ⟨by rfl, ?yB6⟩) hHeld ?rB6
      case yB6 => (intro W hSw; simp only [List.getElem_toArray, List.getElem_cons_succ, List.getElem_cons_zero]; go_simp; try (with_reducible rfl))
      simp only [List.getElem_toArray, List.getElem_cons_succ, List.getElem_cons_zero, Act.put, List.setIfInBounds_toArray, List.set_cons_zero, List.set_cons_succ]
      refine wpAnyH_done (by kernel_rfl) ?_ _
      clear hHeld
      go_wp2_with fail
      refine ret14b Try.results14 rfl rfl (QD.out.row _) rfl ?_
      have HRR := Lib.hid (show readM l = (E, msg0) by rw [HRD.out, HEE.out]; by_cases h : e = 0 <;> simp [h])
      refine ⟨none, 0, ?_, ?_, ?_⟩
      · rw [HRR.out, zero_V]
        unfold errW
        rw [if_neg HE5.out]
        rfl
      · rw [HRR.out]
        exact atts_none2 _ _ _
      · exact ⟨G6.out.os, G6.out.tape, G6.out.output, by have := G6.out.size; simpa using this, fun k hk => (setRow_other _ _ _ _ (by omega)).trans (G6.out.block k hk (by have := HPS.out; intro e; cases e; omega))⟩
    · by_cases he : e = 0
      · subst he
        obtain ⟨ar5, cr5, j1, j2, j3, j4⟩ := R5.out
        simp only at j1
        obtain ⟨d0, d1, g0, g1⟩ := rd_cells j1
        clear j1 j2 j3 j4
        rw [show errW 0 = .nilIface from rfl] at d1
        have q5 := neq_nil
        obtain ⟨c0, c1, c2, c3, c4, c5, c6, c7, c8, c9, c10, c11, c12, c13⟩ := P5.out.c14
        go_wp2_with (skip; (refine wpList_store_rowTo rfl _ _ _ rfl rfl w.heap.size _ rfl rfl _ #[.int .i64 0, .int .i64 0, .int .i64 0, .int .i64 0, .int .i64 0, .int .i64 0, .int .i64 0, .int .i64 0, .string ⟨#[]⟩, .int .i64 0, .int .u32 0, .int .i64 0, .int .i64 0, .slice none 0 0] Q5.out (by kernel_rfl) rfl (by simp [Value.oneCell']) ?_))
        refine ret14b Try.results14 rfl rfl (Q5.out.row _) rfl ?_
        have HRR := Lib.hid (show readM l = (0, m) by rw [HRD.out]; simp)
        refine ⟨a, c, ?_, ?_, ?_⟩
        · rw [HRR.out]
          unfold msgV
          rw [HSF.out]
          rfl
        · rw [HRR.out]
          exact A5.out.far fun g hg => ⟨by have : g < w5.heap.size := hg.1; unfold Old; simpa using this, setRow_other _ _ _ _ (by have := hg.2; omega)⟩
        · exact ⟨G5.out.os, G5.out.tape, G5.out.output, by have := G5.out.size; simpa using this, fun k hk => (setRow_other _ _ _ _ (by omega)).trans (G5.out.block k hk (by have := HPS.out; intro e; cases e; omega))⟩
      · have HE5 := Lib.hid he
        obtain ⟨ar5, cr5, j1, j2, j3, j4⟩ := R5.out
        simp only at j1
        obtain ⟨d0, d1, g0, g1⟩ := rd_cells j1
        clear j1 j2 j3 j4
        rw [show errW e = .iface 40 (.int .i64 (e : Nat)) by unfold errW; rw [if_neg HE5.out]] at d1
        have q5 := neq_err ((e : Nat) : Int)
        go_wp2_with fail
        have HS0 : (fun W => W.cell? ⟨p, 1, none⟩ = some (.iface 40 (.int .i64 (e : Nat))) ∧ ∃ cs, Bq W w.heap.size 31 cs ∧ cs.size = 14) w5.drew := ⟨d1, _, Q5.out, rfl⟩
        have QD := Lib.hid (show Bq w5.drew w.heap.size 31 #[.int .i64 0, .int .i64 0, .int .i64 0, .int .i64 0, .int .i64 0, .int .i64 0, .int .i64 0, .int .i64 0, .string ⟨#[]⟩, .int .i64 0, .int .u32 0, .int .i64 0, .int .i64 0, .slice none 0 0] from Q5.out)
        refine wp_region_held_drew (S := (fun W => W.cell? ⟨p, 1, none⟩ = some (.iface 40 (.int .i64 (e : Nat))) ∧ ∃ cs, Bq W w.heap.size 31 cs ∧ cs.size = 14)) (by kernel_rfl) HS0 (fun hHeld => ?_)
        clear d0 d1 g0 g1 HS0
        refine wpAnyH_take (i := 0) (v := ?vC0) rfl (by kernel_rfl) (by kernel_rfl) (by kernel_rfl) (fun _ _ _ h => h) (Or.inl ⟨by rfl, ?yC0⟩) hHeld ?rC0
        case yC0 => (intro W hSw; simp only [List.getElem_toArray, List.getElem_cons_succ, List.getElem_cons_zero]; go_simp; try (with_reducible rfl))
        simp only [List.getElem_toArray, List.getElem_cons_succ, List.getElem_cons_zero, Act.put, List.setIfInBounds_toArray, List.set_cons_zero, List.set_cons_succ]
        refine wpAnyH_take (i := 1) (v := ?vC1) rfl (by kernel_rfl) (by kernel_rfl) (by kernel_rfl) (fun _ _ _ h => h) (Or.inl ⟨by rfl, ?yC1⟩) hHeld ?rC1
        case yC1 => (intro W hSw; simp only [List.getElem_toArray, List.getElem_cons_succ, List.getElem_cons_zero]; go_simp; try (with_reducible rfl))
        simp only [List.getElem_toArray, List.getElem_cons_succ, List.getElem_cons_zero, Act.put, List.setIfInBounds_toArray, List.set_cons_zero, List.set_cons_succ]
        refine wpAnyH_take (i := 2) (v := ?vC2) rfl (by kernel_rfl) (by kernel_rfl) (by kernel_rfl) (fun _ _ _ h => h) (Or.inl ⟨by rfl, ?yC2⟩) hHeld ?rC2
        case yC2 => (intro W hSw; simp only [List.getElem_toArray, List.getElem_cons_succ, List.getElem_cons_zero]; go_simp; try (with_reducible rfl))
        simp only [List.getElem_toArray, List.getElem_cons_succ, List.getElem_cons_zero, Act.put, List.setIfInBounds_toArray, List.set_cons_zero, List.set_cons_succ]
        refine wpAnyH_take (i := 3) (v := ?vC3) rfl (by kernel_rfl) (by kernel_rfl) (by kernel_rfl) (fun _ _ _ h => h) (Or.inl ⟨by rfl, ?yC3⟩) hHeld ?rC3
        case yC3 => (intro W hSw; simp only [List.getElem_toArray, List.getElem_cons_succ, List.getElem_cons_zero]; go_simp; try (with_reducible rfl))
        simp only [List.getElem_toArray, List.getElem_cons_succ, List.getElem_cons_zero, Act.put, List.setIfInBounds_toArray, List.set_cons_zero, List.set_cons_succ]
        refine wpAnyH_take (i := 4) (v := ?vC4) rfl (by kernel_rfl) (by kernel_rfl) (by kernel_rfl) (fun _ _ _ h => h) (Or.inl ⟨by rfl, ?yC4⟩) hHeld ?rC4
        case yC4 => (intro W hSw; simp only [List.getElem_toArray, List.getElem_cons_succ, List.getElem_cons_zero]; go_simp; try (with_reducible rfl))
        simp only [List.getElem_toArray, List.getElem_cons_succ, List.getElem_cons_zero, Act.put, List.setIfInBounds_toArray, List.set_cons_zero, List.set_cons_succ]
        refine wpAnyH_ready (rs := [5]) (by kernel_rfl) (by simp) (AllReadyH.cons rfl (fun K hK => ?_) AllReadyH.nil)
        simp only [List.getElem_toArray, List.getElem_cons_succ, List.getElem_cons_zero]
        refine wp_store_row _ _ _ rfl w.heap.size #[.int .i64 0, .int .i64 0, .int .i64 0, .int .i64 0, .int .i64 0, .int .i64 0, .int .i64 0, .int .i64 0, .string ⟨#[]⟩, .int .i64 0, .int .u32 0, .int .i64 0, .int .i64 0, .slice none 0 0] rfl rfl _ _ QD.out (by kernel_rfl) rfl (by simp [Value.oneCell']) ?_
        refine hK.out _ _ (⟨(World.cell?_of_block (w := w5.drew) (a := ⟨p, 1, none⟩) (setRow_other _ _ _ _ (fun e => hne e.symm))).trans hHeld.1, _, QD.out.row _, rfl⟩) (fun hHeld1 => ?_)
        clear hK K hHeld
        have hHeld := hHeld1; clear hHeld1
        try simp only [List.getElem_toArray, List.getElem_cons_succ, List.getElem_cons_zero, Act.put, List.setIfInBounds_toArray, List.set_cons_zero, List.set_cons_succ]
        refine wpAnyH_take (i := 6) (v := ?vC6) rfl (by kernel_rfl) (by kernel_rfl) (by kernel_rfl) (fun _ _ _ h => h) (Or.inl ⟨by rfl, ?yC6⟩) hHeld ?rC6
        case yC6 => (intro W hSw; simp only [List.getElem_toArray, List.getElem_cons_succ, List.getElem_cons_zero]; go_simp; try (with_reducible rfl))
        simp only [List.getElem_toArray, List.getElem_cons_succ, List.getElem_cons_zero, Act.put, List.setIfInBounds_toArray, List.set_cons_zero, List.set_cons_succ]
        refine wpAnyH_done (by kernel_rfl) ?_ _
        clear hHeld
        go_wp2_with fail
        refine ret14b Try.results14 rfl rfl (QD.out.row _) rfl ?_
        have HRR := Lib.hid (show readM l = (e, msg0) by rw [HRD.out, if_neg HE5.out])
        refine ⟨none, 0, ?_, ?_, ?_⟩
        · rw [HRR.out, zero_V]
          unfold errW
          rw [if_neg HE5.out]
          rfl
        · rw [HRR.out]
          exact atts_none2 _ _ _
        · exact ⟨G5.out.os, G5.out.tape, G5.out.output, by have := G5.out.size; simpa using this, fun k hk => (setRow_other _ _ _ _ (by omega)).trans (G5.out.block k hk (by have := HPS.out; intro e; cases e; omega))⟩
end Go.Proofs.Ytndgbdbjmogioaa.Wi
