/-
  Contract of add of the document's answer: a part comes to a filter of a sort. Memory that was there is left as it was.
-/
import Derived.Test.YtjffnjiggcfhcaaGreatDoorMr02
import Derived.Test.YtjffnjiggcfhcaaGreatDoorMt12
import Derived.Great.BuildSlice
import Derived.Deep.AppendLies
namespace Go.Proofs.YtjffnjiggcfhcaaGreatDoor.Fl
open Go.RowKit Go.Proofs.YtjffnjiggcfhcaaGreatDoor.Tk
set_option linter.unusedVariables false
set_option linter.unusedSimpArgs false

/-- xs are the cells of the filters ps. -/
def RowF (W : World) (T : Nat → Prop) (xs : List Value) (ps : List Flt) : Prop :=
  xs.length = ps.length * 5 ∧ (∀ u ∈ xs, u.oneCell' = true) ∧ ∀ (k : Nat) (h : k < ps.length), ∃ a c b d, (∀ i, i < 5 → xs[k * 5 + i]? = (fltC ps[k] a c b d)[i]?) ∧ FltAt W T ps[k] a b
theorem RowF.far {W V : World} {S T : Nat → Prop} {xs : List Value} {ps : List Flt} (h : RowF W S xs ps) (hS : ∀ g, S g → T g ∧ V.heap[g]? = W.heap[g]?) : RowF V T xs ps :=
  ⟨h.1, h.2.1, fun k hk => by obtain ⟨a, c, b, d, h1, h2⟩ := h.2.2 k hk; exact ⟨a, c, b, d, h1, h2.far hS⟩⟩
theorem RowF.nil (W : World) (T : Nat → Prop) : RowF W T [] [] := ⟨rfl, fun u h => by simp at h, fun k h => by simp at h⟩
theorem RowF.one {W : World} {T : Nat → Prop} {f : Flt} {a : Option Addr} {c : Nat} {b : Option Addr} {d : Nat} (h : FltAt W T f a b) : RowF W T (fltC f a c b d) [f] := by
  refine ⟨rfl, fltC_one f a c b d, fun k hk => ?_⟩
  have hk0 : k = 0 := by simp at hk; omega
  subst hk0
  exact ⟨a, c, b, d, fun i hi => by simp, h⟩
theorem RowF.app {W : World} {T : Nat → Prop} {xs ys : List Value} {ps qs : List Flt} (h1 : RowF W T xs ps) (h2 : RowF W T ys qs) : RowF W T (xs ++ ys) (ps ++ qs) := by
  obtain ⟨l1, c1, p1⟩ := h1
  obtain ⟨l2, c2, p2⟩ := h2
  refine ⟨by simp [l1, l2, Nat.add_mul], fun u hu => ?_, fun k hk => ?_⟩
  · rcases List.mem_append.1 hu with h | h
    · exact c1 u h
    · exact c2 u h
  · by_cases hkp : k < ps.length
    · obtain ⟨a, c, b, d, hx, hf⟩ := p1 k hkp
      refine ⟨a, c, b, d, fun i hi => ?_, by rw [List.getElem_append_left hkp]; exact hf⟩
      rw [List.getElem?_append_left (by omega), hx i hi]
      simp [List.getElem_append_left hkp]
    · rw [List.length_append] at hk
      obtain ⟨a, c, b, d, hx, hf⟩ := p2 (k - ps.length) (by omega)
      have e1 : (ps ++ qs)[k]'(by rw [List.length_append]; exact hk) = qs[k - ps.length]'(by omega) := List.getElem_append_right (by omega)
      refine ⟨a, c, b, d, fun i hi => ?_, by rw [e1]; exact hf⟩
      rw [List.getElem?_append_right (by omega), e1, ← hx i hi]
      congr 1
      omega
/-- The cells of parts in memory. -/
theorem parts_row {W : World} {S : Nat → Prop} {g o : Nat} : ∀ (ps : List Flt) (j : Nat), PartsAt W S (some ⟨g, o, none⟩) j ps →
    ∃ xs, RowF W S xs ps ∧ ∀ i u, xs[i]? = some u → W.cell? ⟨g, o + j * 5 + i, none⟩ = some u
  | [], j, _ => ⟨[], RowF.nil W S, fun i u h => by simp at h⟩
  | p :: r, j, h => by
    rw [PartsAt] at h
    obtain ⟨⟨g', o', a, c, b', d, e, hg, h5, hf⟩, hr⟩ := h
    cases e
    obtain ⟨xs, hx, hc⟩ := parts_row r (j + 1) hr
    refine ⟨fltC p a c b' d ++ xs, (RowF.one hf).app hx, fun i u hu => ?_⟩
    obtain ⟨e0, e1, e2, e3, e4⟩ := h5
    match i, hu with
    | 0, hu => simp [fltC] at hu; rw [← hu]; exact e0
    | 1, hu => simp [fltC] at hu; rw [← hu]; exact e1
    | 2, hu => simp [fltC] at hu; rw [← hu]; exact e2
    | 3, hu => simp [fltC] at hu; rw [← hu]; exact e3
    | 4, hu => simp [fltC] at hu; rw [← hu]; exact e4
    | i + 5, hu =>
      have : xs[i]? = some u := by
        rw [List.getElem?_append_right (by simp [fltC])] at hu
        simpa [fltC] using hu
      have h2 := hc i u this
      rw [show o + (j + 1) * 5 + i = o + j * 5 + (i + 5) by omega] at h2
      exact h2
theorem parts_lies {W : World} {S : Nat → Prop} {b : Option Addr} {ps : List Flt} (h : PartsAt W S b 0 ps) (h0 : 0 < ps.length) :
    ∃ g o xs, b = some ⟨g, o, none⟩ ∧ S g ∧ RowF W S xs ps ∧ ∀ j u, xs[j]? = some u → W.cell? ((⟨g, o, none⟩ : Addr).add j) = some u := by
  obtain ⟨g, o, _, _, _, _, e, hg, _, _⟩ := h.get 0 h0
  subst e
  obtain ⟨xs, hx, hc⟩ := parts_row ps 0 h
  refine ⟨g, o, xs, rfl, hg, hx, fun j u hu => ?_⟩
  have := hc j u hu
  rw [show ((⟨g, o, none⟩ : Addr).add j) = ⟨g, o + j, none⟩ by unfold Addr.add; split <;> simp_all]
  simpa using this
theorem row_parts {V : World} {B n d : Nat} {b : Option Addr} {T : Nat → Prop} {xs : List Value} {ps : List Flt} (ho : V.ownsRow B 25 5 (.slice b n d) n xs) (hn : n = ps.length) (hx : RowF V T xs ps) (hT : ∀ g, B ≤ g → g < V.heap.size → T g) : PartsAt V T b 0 ps := by
  subst hn
  refine PartsAt.mk' fun k hk => ?_
  obtain ⟨g, rfl, hzg, hg, hn, hcl⟩ := cell_of_own ho (by omega)
  obtain ⟨a', c', b', d', hw, hf⟩ := hx.2.2 k hk
  refine ⟨g, 0, a', c', b', d', rfl, hT g hzg hg, ?_, hf⟩
  rw [Nat.zero_add, Nat.zero_add]
  exact ⟨hcl _ _ (by rw [show k * 5 = k * 5 + 0 from rfl, hw 0 (by omega)]; rfl), hcl _ _ (by rw [hw 1 (by omega)]; rfl), hcl _ _ (by rw [hw 2 (by omega)]; rfl), hcl _ _ (by rw [hw 3 (by omega)]; rfl), hcl _ _ (by rw [hw 4 (by omega)]; rfl)⟩
theorem run_buildEmpty (w : World) {i0 : TypeInfo} (hi : Tryz.prog.info? 25 = some i0) : (Instr.buildSlice 23 0 #[]).run Tryz.prog w = .ok (.slice (some ⟨w.heap.size, 0, none⟩) 0 0) (w.alloc (.cells #[] 25)) := by
  have hu := Tryz.underlying23
  simp [Instr.buildSlice, run_underlying hu, sizeOf, typeInfo, hi, newRow, Instr.fill]
  rw [show Array.range 0 = (#[] : Array Nat) by decide]
  simp
theorem wp_buildEmpty {o : Oper} {a : Act} {w : World} {K : Act → World → Prop} {Q : Exit → Act → World → Prop} {i0 : TypeInfo} (ho : o.op = .buildSlice 23 0 #[]) (hi : Tryz.prog.info? 25 = some i0)
    (h : K (a.put o.dst (.slice (some ⟨w.heap.size, 0, none⟩) 0 0)) (w.alloc (.cells #[] 25))) : o.wp Tryz.prog a w K Q := by
  unfold Oper.wp execOp
  simp only [ho, Sem.run_bind, List.map_toArray, List.map_nil, run_buildEmpty w hi, Result.andThen_ok]
  exact h
theorem own_empty (W : World) (B : Nat) (hB : B ≤ W.heap.size) : (W.alloc (.cells #[] 25)).ownsRow B 25 5 (.slice (some ⟨W.heap.size, 0, none⟩) 0 0) 0 [] :=
  ⟨rfl, Or.inr ⟨W.heap.size, 0, #[], rfl, hB, heap_alloc_new W _, Nat.le_refl _, Nat.zero_le _, rfl, rfl⟩⟩
/-- What add tells: the filter of kind k with the parts ps; its parts lie from b on. -/
def AddE (k : Int) (ps : List Flt) (S : Nat → Prop) (w w' : World) (e : Ending) : Prop :=
  Below w.heap.size w w' ∧ ∃ b d, e = .returned (.agg #[.int .i64 k, .string ⟨#[]⟩, .string ⟨#[]⟩, .slice none 0 0, .slice b ps.length d]) ∧ FltAt w' (fun g => S g ∨ (w.heap.size ≤ g ∧ g < w'.heap.size)) (.mk k [] [] [] ps) none b
theorem add_end {k : Int} {ps qs : List Flt} {S : Nat → Prop} {w V : World} {B gQ N capQ : Nat} {xs ys : List Value} (hk : -9223372036854775808 ≤ k ∧ k ≤ 9223372036854775807) (hB : w.heap.size ≤ B) (hb : Below w.heap.size w V) (hS : ∀ g, S g → g < w.heap.size) (h1 : RowF w S xs ps) (h2 : RowF w S ys qs)
    (ho : V.ownsRow B 25 5 (.slice (some ⟨gQ, 0, none⟩) N capQ) N (xs ++ ys)) (hN : N = (ps ++ qs).length) (hl : N ≤ maxLen) :
    AddE k (ps ++ qs) S w V (.returned (.agg #[.int .i64 k, .string ⟨#[]⟩, .string ⟨#[]⟩, .slice none 0 0, .slice (some ⟨gQ, 0, none⟩) N capQ])) := by
  have hlen := hN
  refine ⟨hb, some ⟨gQ, 0, none⟩, capQ, by rw [hlen], FltAt.mk' ⟨by simp [Flt.name], by simp [Flt.op], hk.1, hk.2, by show (ps ++ qs).length ≤ maxLen; omega⟩ ⟨by simp [Flt.vals], fun v hv => by simp [Flt.vals] at hv, fun h => by simp [Flt.vals] at h⟩ ?_⟩
  exact row_parts ho hlen ((h1.app h2).far fun g hg => ⟨Or.inl hg, hb.block g (hS g hg)⟩) fun g hg hg2 => Or.inr ⟨by omega, hg2⟩
theorem lies_later {W V : World} {B g o : Nat} {xs : List Value} (hb : Below B W V) (hg : g < B) (h : ∀ j u, xs[j]? = some u → W.cell? ((⟨g, o, none⟩ : Addr).add j) = some u) : ∀ j u, xs[j]? = some u → V.cell? ((⟨g, o, none⟩ : Addr).add j) = some u := fun j u hu => by
  rw [← h j u hu]
  exact World.cell?_of_block (w := W) (w' := V) (a := (⟨g, o, none⟩ : Addr).add j) (by rw [show ((⟨g, o, none⟩ : Addr).add j).block = g by unfold Addr.add; split <;> simp_all]; exact hb.block g hg)
theorem rw_frozen {W : World} {g : Nat} {cs : Array Value} (h : Rw W g cs) (o : Nat) : W.frozen? ⟨g, o, none⟩ = false := by
  unfold Rw at h
  simp [World.frozen?, h]
set_option maxHeartbeats 8000000 in
set_option maxRecDepth 100000 in
theorem padd_more_ne (k : Int) (hk : -9223372036854775808 ≤ k ∧ k ≤ 9223372036854775807) (ps : List Flt) (hp0 : 0 < ps.length) (hpl : ps.length ≤ 2000) (b : Option Addr) (d : Nat) (x : Flt) (hkx : ¬ x.kind = k) (xa : Option Addr) (xc : Nat) (xb : Option Addr) (xd : Nat) (S : Nat → Prop) (w : World) (hSL : ∀ g, S g → g < w.heap.size) (hP : PartsAt w S b 0 ps) (hX : FltAt w S x xa xb) :
    Calls Tryz.prog 43 #[.agg #[.int .i64 k, .string ⟨#[]⟩, .string ⟨#[]⟩, .slice none 0 0, .slice b ps.length d], .agg #[.int .i64 x.kind, bs x.name, bs x.op, .slice xa x.vals.length xc, .slice xb x.parts.length xd]] w fun e w' => AddE k (ps ++ [x]) S w w' e := by
  obtain ⟨i0, hi, hz0, hz1, hz2⟩ := info_cut' infoFlt
  have HK64 := Lib.hid hk
  have HSL := Lib.hid hSL
  obtain ⟨gF, oF, xsF, hb, hSF, hXF, hLF⟩ := parts_lies hP hp0
  subst hb
  have HXF0 := Lib.hid hXF
  obtain ⟨n, hn⟩ : ∃ n, n = ps.length := ⟨_, rfl⟩
  have HN := Lib.hid hn
  have hn0 : 0 < n := by omega
  have hn2 : n ≤ 2000 := by omega
  have HXF := Lib.hid (show xsF.length = n * 5 ∧ (∀ u ∈ xsF, u.oneCell' = true) ∧ True from ⟨by rw [hn]; exact hXF.1, hXF.2.1, trivial⟩)
  have HLF0 := Lib.hid hLF
  have hgF := hSL gF hSF
  rw [← hn]
  obtain ⟨x2, hx2⟩ : ∃ n, n = x.parts.length := ⟨_, rfl⟩
  rw [← hx2]
  obtain ⟨xn, exn, _⟩ := bs_bytes x.name
  obtain ⟨xo, exo, _⟩ := bs_bytes x.op
  obtain ⟨xk, hxk⟩ : ∃ z, z = x.kind := ⟨_, rfl⟩
  obtain ⟨x1, hx1⟩ : ∃ z, z = x.vals.length := ⟨_, rfl⟩
  have HX := Lib.hid hX
  have HXE := Lib.hid (show (fltC x xa xc xb xd) = [.int .i64 xk, .string xn, .string xo, .slice xa x1 xc, .slice xb x2 xd] by unfold fltC; rw [exn, exo, hxk, hx1, hx2])
  rw [exn, exo, ← hxk, ← hx1]
  rw [← hxk] at hkx
  clear hP hXF hLF hn hp0 hpl hSF
  clear hx2
  clear hX exn exo hxk hx1 hk
  obtain ⟨q1, hq1⟩ : ∃ q, q = w.heap.size + 1 := ⟨_, rfl⟩
  obtain ⟨q2, hq2⟩ : ∃ q, q = w.heap.size + 1 + 1 := ⟨_, rfl⟩
  obtain ⟨w3, hw3⟩ : ∃ v, v = ((w.alloc (.cells #[.int .i64 k, .string ⟨#[]⟩, .string ⟨#[]⟩, .slice none 0 0, .slice (some ⟨gF, oF, none⟩) n d] 25)).alloc (.cells #[.int .i64 xk, .string xn, .string xo, .slice xa x1 xc, .slice xb x2 xd] 25)).alloc (.cells #[.int .i64 0, .string ⟨#[]⟩, .string ⟨#[]⟩, .slice none 0 0, .slice none 0 0] 25) := ⟨_, rfl⟩
  have HW3 := Lib.hid hw3
  have HQE := Lib.hid (And.intro hq1 hq2)
  have hsz1 : (w.alloc (.cells #[.int .i64 k, .string ⟨#[]⟩, .string ⟨#[]⟩, .slice none 0 0, .slice (some ⟨gF, oF, none⟩) n d] 25)).heap.size = q1 := by simp [hq1]
  have hsz2 : ((w.alloc (.cells #[.int .i64 k, .string ⟨#[]⟩, .string ⟨#[]⟩, .slice none 0 0, .slice (some ⟨gF, oF, none⟩) n d] 25)).alloc (.cells #[.int .i64 xk, .string xn, .string xo, .slice xa x1 xc, .slice xb x2 xd] 25)).heap.size = q2 := by simp [hq2]
  have hsz3 : w3.heap.size = q2 + 1 := by rw [hw3, hq2]; simp
  obtain ⟨wd, hwd⟩ : ∃ v, v = w3.drew := ⟨_, rfl⟩
  have HWD := Lib.hid hwd
  have hszd : wd.heap.size = w3.heap.size := by rw [hwd]; rfl
  have HQ1 := Lib.hid (show q1 = w.heap.size + 1 ∧ (q2 = q1 + 1 ∧ q2 < wd.heap.size) ∧ w.heap.size ≤ wd.heap.size from ⟨hq1, ⟨by omega, by omega⟩, by omega⟩)
  have R0 := Lib.hid (show Rw wd w.heap.size #[.int .i64 k, .string ⟨#[]⟩, .string ⟨#[]⟩, .slice none 0 0, .slice (some ⟨gF, oF, none⟩) n d] by rw [hwd, hw3]; exact ((Rw.new ..).alloc2 _ _).same rfl)
  have X0 := Lib.hid (show Rw wd q1 #[.int .i64 xk, .string xn, .string xo, .slice xa x1 xc, .slice xb x2 xd] by rw [hwd, hw3, ← hsz1]; exact ((Rw.new ..).alloc _).same rfl)
  have Z0 := Lib.hid (show Rw wd q2 #[.int .i64 0, .string ⟨#[]⟩, .string ⟨#[]⟩, .slice none 0 0, .slice none 0 0] by rw [hwd, hw3, ← hsz2]; exact (Rw.new ..).same rfl)
  have BW3 := Lib.hid (show Below w.heap.size w wd by rw [hwd, hw3]; exact (((Below.refl _ _).alloc (Nat.le_refl _) _).alloc (by simp) _ |>.alloc (by simp; omega) _).drew)
  have HGF := Lib.hid (show gF < wd.heap.size by have := HQ1.out; omega)
  have HLF := Lib.hid (fun j u hu => (lies_later BW3.out hgF HLF0.out j u hu))
  have HS := Lib.hid (show ∀ W, Below wd.heap.size wd W → (fun W => W.cell? ⟨q1, 0, none⟩ = some (.int .i64 xk) ∧ W.cell? ⟨q1, 1, none⟩ = some (.string xn) ∧ W.cell? ⟨q1, 2, none⟩ = some (.string xo) ∧ W.cell? ⟨q1, 3, none⟩ = some (.slice xa x1 xc) ∧ W.cell? ⟨q1, 4, none⟩ = some (.slice xb x2 xd)) W from fun W hW => (X0.out.later hW).box)
  have HS2 := Lib.hid (show ∀ W (v : Value), Below wd.heap.size wd W → (fun W => W.cell? ⟨q1, 0, none⟩ = some (.int .i64 xk) ∧ W.cell? ⟨q1, 1, none⟩ = some (.string xn) ∧ W.cell? ⟨q1, 2, none⟩ = some (.string xo) ∧ W.cell? ⟨q1, 3, none⟩ = some (.slice xa x1 xc) ∧ W.cell? ⟨q1, 4, none⟩ = some (.slice xb x2 xd)) (W.setCell ⟨w.heap.size, 4, none⟩ v) from fun W v hW => ((X0.out.later hW).same (Below.heap_setCell _ _ _ _ (by have := HQ1.out; simp only; omega))).box)
  clear hw3 hwd hq1 hq2 hsz1 hsz2 hsz3 hszd
  go_enter Tryz.func43, Tryz.ntmps43
  have hkb : (xk == k) = false := by rw [beq_eq_false_iff_ne]; exact hkx
  have hkd : decide (xk = k) = false := decide_eq_false hkx
  go_wp2_with fail
  rw [← HW3.out, ← HQE.out.2, ← HQE.out.1]
  refine wp_region_held_drew (S := (fun W => W.cell? ⟨q1, 0, none⟩ = some (.int .i64 xk) ∧ W.cell? ⟨q1, 1, none⟩ = some (.string xn) ∧ W.cell? ⟨q1, 2, none⟩ = some (.string xo) ∧ W.cell? ⟨q1, 3, none⟩ = some (.slice xa x1 xc) ∧ W.cell? ⟨q1, 4, none⟩ = some (.slice xb x2 xd))) (by kernel_rfl) (by rw [← HWD.out]; exact HS.out _ (Below.refl _ _)) (fun hHeld => ?_)
  rw [← HWD.out] at hHeld ⊢
  refine wpAnyH_take (i := 1) (v := ?vA1) rfl (by kernel_rfl) (by kernel_rfl) (by kernel_rfl) (fun _ _ _ h => h) (Or.inl ⟨by rfl, ?yA1⟩) hHeld ?rA1
  case yA1 => (intro W hSw; simp only [List.getElem_toArray, List.getElem_cons_succ, List.getElem_cons_zero]; go_simp; try (with_reducible rfl))
  simp only [List.getElem_toArray, List.getElem_cons_succ, List.getElem_cons_zero, Act.put, List.setIfInBounds_toArray, List.set_cons_zero, List.set_cons_succ]
  refine wpAnyH_take (i := 4) (v := ?vA4) rfl (by kernel_rfl) (by kernel_rfl) (by kernel_rfl) (fun _ _ _ h => h) (Or.inl ⟨by rfl, ?yA4⟩) hHeld ?rA4
  case yA4 => (intro W hSw; simp only [List.getElem_toArray, List.getElem_cons_succ, List.getElem_cons_zero]; go_simp; try (with_reducible rfl))
  simp only [List.getElem_toArray, List.getElem_cons_succ, List.getElem_cons_zero, Act.put, List.setIfInBounds_toArray, List.set_cons_zero, List.set_cons_succ]
  have B0 := Lib.hid (Below.refl wd.heap.size wd)
  refine wpAnyH_ready (rs := [0, 2, 5]) (by kernel_rfl) (by simp) (AllReadyH.cons rfl (fun K hK => ?_) (AllReadyH.cons rfl (fun K hK => ?_) (AllReadyH.cons rfl (fun K hK => ?_) AllReadyH.nil)))
  · simp only [List.getElem_toArray, List.getElem_cons_succ, List.getElem_cons_zero]
    refine wp_buildEmpty rfl hi ?_
    obtain ⟨WA1, hWn⟩ : ∃ v, v = wd.alloc (.cells #[] 25) := ⟨_, rfl⟩
    rw [← hWn]
    have B1 := Lib.hid (show Below wd.heap.size wd WA1 by rw [hWn]; exact B0.out.alloc B0.out.size _)
    have O1 := Lib.hid (show WA1.ownsRow wd.heap.size 25 5 (.slice (some ⟨wd.heap.size, 0, none⟩) 0 0) 0 [] by rw [hWn]; exact own_empty _ _ B0.out.size)
    clear hWn
    refine hK.out _ _ (HS.out _ B1.out) (fun hHeld1 => ?_)
    clear hK K hHeld
    have hHeld := hHeld1; clear hHeld1
    try simp only [List.getElem_toArray, List.getElem_cons_succ, List.getElem_cons_zero, Act.put, List.setIfInBounds_toArray, List.set_cons_zero, List.set_cons_succ]
    refine wpAnyH_ready (rs := [2, 5]) (by kernel_rfl) (by simp) (AllReadyH.cons rfl (fun K hK => ?_) (AllReadyH.cons rfl (fun K hK => ?_) AllReadyH.nil))
    · simp only [List.getElem_toArray, List.getElem_cons_succ, List.getElem_cons_zero]
      obtain ⟨j0, j1, j2, j3, j4⟩ := (R0.out.later B1.out).box
      go_simp
      clear j0 j1 j2 j3 j4
      have B2 := B1
      have O2 := O1
      refine hK.out _ _ (HS.out _ B2.out) (fun hHeld1 => ?_)
      clear hK K hHeld
      have hHeld := hHeld1; clear hHeld1
      try simp only [List.getElem_toArray, List.getElem_cons_succ, List.getElem_cons_zero, Act.put, List.setIfInBounds_toArray, List.set_cons_zero, List.set_cons_succ]
      refine wpAnyH_ready (rs := [3, 5]) (by kernel_rfl) (by simp) (AllReadyH.cons rfl (fun K hK => ?_) (AllReadyH.cons rfl (fun K hK => ?_) AllReadyH.nil))
      · simp only [List.getElem_toArray, List.getElem_cons_succ, List.getElem_cons_zero]
        refine wp_append_lies WA1 (.tmp 19) (.tmp 21) 23 rfl wd.heap.size 25 i0 (.agg #[.int .i64 0, .string ⟨#[]⟩, .string ⟨#[]⟩, .slice none 0 0, .slice none 0 0]) 5 88 Tryz.underlying23 hi hz0 hz1 hz2 rfl (by decide) (.slice (some ⟨wd.heap.size, 0, none⟩) 0 0) 0 [] rfl O2.out ⟨gF, oF, none⟩ n d xsF rfl HXF.out.1 (fun j u hu => lies_later B2.out HGF.out HLF.out j u hu) HXF.out.2.1 hn0 (by unfold maxLen; omega) (by omega) B2.out.size WA1.heap.size rfl ?_
        intro gPA3 capA3 WA3 hown hgrow hat hglt
        have B3 := Lib.hid (show Below wd.heap.size wd WA3 from own_below B2.out O2.out hgrow)
        try simp only [Nat.zero_add, List.nil_append] at hown
        have O3 := Lib.hid hown
        try simp only [Nat.zero_add]
        clear hown hgrow hat hglt
        refine hK.out _ _ (HS.out _ B3.out) (fun hHeld1 => ?_)
        clear hK K hHeld
        have hHeld := hHeld1; clear hHeld1
        try simp only [List.getElem_toArray, List.getElem_cons_succ, List.getElem_cons_zero, Act.put, List.setIfInBounds_toArray, List.set_cons_zero, List.set_cons_succ]
        refine wpAnyH_ready (rs := [5]) (by kernel_rfl) (by simp) (AllReadyH.cons rfl (fun K hK => ?_) AllReadyH.nil)
        simp only [List.getElem_toArray, List.getElem_cons_succ, List.getElem_cons_zero]
        go_simp
        obtain ⟨WA4, hWn⟩ : ∃ v, v = WA3.alloc (.cells #[.int .i64 xk, .string xn, .string xo, .slice xa x1 xc, .slice xb x2 xd] 25) := ⟨_, rfl⟩
        rw [← hWn]
        have B4 := Lib.hid (show Below wd.heap.size wd WA4 by rw [hWn]; exact B3.out.alloc B3.out.size _)
        have RB4 := Lib.hid (show Rw WA4 WA3.heap.size #[.int .i64 xk, .string xn, .string xo, .slice xa x1 xc, .slice xb x2 xd] by rw [hWn]; exact Rw.new ..)
        have O4 := Lib.hid (show WA4.ownsRow wd.heap.size 25 5 _ _ _ by rw [hWn]; exact own_keep O3.out fun g hg => Below.heap_alloc _ _ _ (own_lt'' O3.out hg).2)
        have NE4 := Lib.hid (show ¬ WA3.heap.size = gPA3 by intro e; have := (own_lt'' (g := gPA3) O3.out rfl).2; omega)
        clear hWn
        refine hK.out _ _ (HS.out _ B4.out) (fun hHeld1 => ?_)
        clear hK K hHeld
        have hHeld := hHeld1; clear hHeld1
        try simp only [List.getElem_toArray, List.getElem_cons_succ, List.getElem_cons_zero, Act.put, List.setIfInBounds_toArray, List.set_cons_zero, List.set_cons_succ]
        refine wpAnyH_ready (rs := [6]) (by kernel_rfl) (by simp) (AllReadyH.cons rfl (fun K hK => ?_) AllReadyH.nil)
        simp only [List.getElem_toArray, List.getElem_cons_succ, List.getElem_cons_zero]
        refine wp_append_lies WA4 (.tmp 22) (.tmp 24) 23 rfl wd.heap.size 25 i0 (.agg #[.int .i64 0, .string ⟨#[]⟩, .string ⟨#[]⟩, .slice none 0 0, .slice none 0 0]) 5 88 Tryz.underlying23 hi hz0 hz1 hz2 rfl (by decide) (.slice (some ⟨gPA3, 0, none⟩) n capA3) n xsF rfl O4.out ⟨WA3.heap.size, 0, none⟩ 1 1 [.int .i64 xk, .string xn, .string xo, .slice xa x1 xc, .slice xb x2 xd] rfl rfl (World.news_of_block (show WA4.heap[WA3.heap.size]? = some (.cells #[.int .i64 xk, .string xn, .string xo, .slice xa x1 xc, .slice xb x2 xd] 25 (0, 0)) from RB4.out)) (by intro u hu; simp at hu; rcases hu with rfl | rfl | rfl | rfl | rfl <;> rfl) (by decide) (by unfold maxLen; omega) (by omega) B4.out.size WA4.heap.size rfl ?_
        intro gQ capQ WQ hown hgrow hat hglt
        have BQ := Lib.hid (show Below wd.heap.size wd WQ from own_below B4.out O4.out hgrow)
        try simp only [Nat.zero_add, List.nil_append] at hown
        have OQ := Lib.hid hown
        clear hown hgrow hat hglt
        refine hK.out _ _ (HS.out _ BQ.out) (fun hHeld1 => ?_)
        clear hK K hHeld
        have hHeld := hHeld1; clear hHeld1
        try simp only [List.getElem_toArray, List.getElem_cons_succ, List.getElem_cons_zero, Act.put, List.setIfInBounds_toArray, List.set_cons_zero, List.set_cons_succ]
        refine wpAnyH_take (i := 7) (v := ?vZ1) rfl (by kernel_rfl) (by kernel_rfl) (by kernel_rfl) (fun _ _ _ h => h) (Or.inl ⟨by rfl, ?yZ1⟩) hHeld ?rZ1
        case yZ1 => (intro W hSw; simp only [List.getElem_toArray, List.getElem_cons_succ, List.getElem_cons_zero]; go_simp; try (with_reducible rfl))
        simp only [List.getElem_toArray, List.getElem_cons_succ, List.getElem_cons_zero, Act.put, List.setIfInBounds_toArray, List.set_cons_zero, List.set_cons_succ]
        refine wpAnyH_ready (rs := [8]) (by kernel_rfl) (by simp) (AllReadyH.cons rfl (fun K hK => ?_) AllReadyH.nil)
        simp only [List.getElem_toArray, List.getElem_cons_succ, List.getElem_cons_zero]
        have XF := R0.out.later BQ.out
        obtain ⟨j0, j1, j2, j3, j4⟩ := XF.box
        have jl : w.heap.size < WQ.heap.size := XF.lt
        have jf : WQ.frozen? ⟨w.heap.size, 4, none⟩ = false := rw_frozen XF 4
        have jq : ¬ w.heap.size = q1 := by have := HQ1.out; omega
        have jn : ¬ q1 = w.heap.size := fun e => jq e.symm
        go_simp
        refine hK.out _ _ (HS2.out _ _ BQ.out) (fun hHeld1 => ?_)
        clear hK K hHeld
        have hHeld := hHeld1; clear hHeld1
        try simp only [List.getElem_toArray, List.getElem_cons_succ, List.getElem_cons_zero, Act.put, List.setIfInBounds_toArray, List.set_cons_zero, List.set_cons_succ]
        refine wpAnyH_done (by kernel_rfl) ?_ _
        have YF := Lib.hid (show Rw (WQ.setCell ⟨w.heap.size, 4, none⟩ (.slice (some ⟨gQ, 0, none⟩) (n + 1) capQ)) q2 #[.int .i64 0, .string ⟨#[]⟩, .string ⟨#[]⟩, .slice none 0 0, .slice none 0 0] from (Z0.out.later BQ.out).same (Below.heap_setCell _ _ _ _ (by have := HQ1.out; simp only; omega)))
        go_wp2_with (skip; (refine wpList_store_rowTo rfl _ _ _ rfl rfl q2 _ rfl rfl _ #[.int .i64 0, .string ⟨#[]⟩, .string ⟨#[]⟩, .slice none 0 0, .slice none 0 0] (by first | exact YF.out) (by kernel_rfl) rfl (by simp [Value.oneCell']) ?_))
        refine retF Tryz.results43 rfl (YF.out.set _).box rfl ?_
        have HB1 : w.grownBy WQ (some w.heap.size) := gr_of_below (BW3.out.trans (BQ.out.mono BW3.out.size))
        have HB2 : w.grownBy (WQ.setCell ⟨w.heap.size, 4, none⟩ (.slice (some ⟨gQ, 0, none⟩) (n + 1) capQ)) (some w.heap.size) := gr_new HB1 (Nat.le_refl _) (.slice (some ⟨gQ, 0, none⟩) (n + 1) capQ)
        have HB3 : w.grownBy ((WQ.setCell ⟨w.heap.size, 4, none⟩ (.slice (some ⟨gQ, 0, none⟩) (n + 1) capQ)).setRow q2 #[.int .i64 k, .string ⟨#[]⟩, .string ⟨#[]⟩, .slice none 0 0, (.slice (some ⟨gQ, 0, none⟩) (n + 1) capQ)]) (some w.heap.size) := gr_row HB2 (by have := HQ1.out; omega) _
        have HB : Below w.heap.size w ((WQ.setCell ⟨w.heap.size, 4, none⟩ (.slice (some ⟨gQ, 0, none⟩) (n + 1) capQ)).setRow q2 #[.int .i64 k, .string ⟨#[]⟩, .string ⟨#[]⟩, .slice none 0 0, (.slice (some ⟨gQ, 0, none⟩) (n + 1) capQ)]) := gr_below HB3 (Nat.le_refl _) (Nat.le_refl _)
        have HO := own_keep (own_keep OQ.out (V := WQ.setCell ⟨w.heap.size, 4, none⟩ (.slice (some ⟨gQ, 0, none⟩) (n + 1) capQ)) fun g hg => Below.heap_setCell _ _ _ _ (by have := (own_lt'' OQ.out hg).1; have := HQ1.out; simp only; omega)) (V := (WQ.setCell ⟨w.heap.size, 4, none⟩ (.slice (some ⟨gQ, 0, none⟩) (n + 1) capQ)).setRow q2 #[.int .i64 k, .string ⟨#[]⟩, .string ⟨#[]⟩, .slice none 0 0, (.slice (some ⟨gQ, 0, none⟩) (n + 1) capQ)]) fun g hg => setRow_other _ _ _ _ (by have := (own_lt'' OQ.out hg).1; have := HQ1.out; omega)
        exact add_end HK64.out HQ1.out.2.2 HB HSL.out HXF0.out (by have := RowF.one (c := xc) (d := xd) HX.out; rw [HXE.out] at this; exact this) HO (by rw [List.length_append, ← HN.out]; rfl) (by unfold maxLen; omega)
      · simp only [List.getElem_toArray, List.getElem_cons_succ, List.getElem_cons_zero]
        go_simp
        obtain ⟨WA3, hWn⟩ : ∃ v, v = WA1.alloc (.cells #[.int .i64 xk, .string xn, .string xo, .slice xa x1 xc, .slice xb x2 xd] 25) := ⟨_, rfl⟩
        rw [← hWn]
        have B3 := Lib.hid (show Below wd.heap.size wd WA3 by rw [hWn]; exact B2.out.alloc B2.out.size _)
        have RB3 := Lib.hid (show Rw WA3 WA1.heap.size #[.int .i64 xk, .string xn, .string xo, .slice xa x1 xc, .slice xb x2 xd] by rw [hWn]; exact Rw.new ..)
        have O3 := Lib.hid (show WA3.ownsRow wd.heap.size 25 5 _ _ _ by rw [hWn]; exact own_keep O2.out fun g hg => Below.heap_alloc _ _ _ (own_lt'' O2.out hg).2)
        have NE3 := Lib.hid (show ¬ WA1.heap.size = wd.heap.size by intro e; have := (own_lt'' (g := wd.heap.size) O2.out rfl).2; omega)
        clear hWn
        refine hK.out _ _ (HS.out _ B3.out) (fun hHeld1 => ?_)
        clear hK K hHeld
        have hHeld := hHeld1; clear hHeld1
        try simp only [List.getElem_toArray, List.getElem_cons_succ, List.getElem_cons_zero, Act.put, List.setIfInBounds_toArray, List.set_cons_zero, List.set_cons_succ]
        refine wpAnyH_ready (rs := [3]) (by kernel_rfl) (by simp) (AllReadyH.cons rfl (fun K hK => ?_) AllReadyH.nil)
        simp only [List.getElem_toArray, List.getElem_cons_succ, List.getElem_cons_zero]
        refine wp_append_lies WA3 (.tmp 19) (.tmp 21) 23 rfl wd.heap.size 25 i0 (.agg #[.int .i64 0, .string ⟨#[]⟩, .string ⟨#[]⟩, .slice none 0 0, .slice none 0 0]) 5 88 Tryz.underlying23 hi hz0 hz1 hz2 rfl (by decide) (.slice (some ⟨wd.heap.size, 0, none⟩) 0 0) 0 [] rfl O3.out ⟨gF, oF, none⟩ n d xsF rfl HXF.out.1 (fun j u hu => lies_later B3.out HGF.out HLF.out j u hu) HXF.out.2.1 hn0 (by unfold maxLen; omega) (by omega) B3.out.size WA3.heap.size rfl ?_
        intro gPA4 capA4 WA4 hown hgrow hat hglt
        have B4 := Lib.hid (show Below wd.heap.size wd WA4 from own_below B3.out O3.out hgrow)
        try simp only [Nat.zero_add, List.nil_append] at hown
        have O4 := Lib.hid hown
        try simp only [Nat.zero_add]
        have RB4 := Lib.hid (show Rw WA4 WA1.heap.size #[.int .i64 xk, .string xn, .string xo, .slice xa x1 xc, .slice xb x2 xd] from RB3.out.same (hgrow.block WA1.heap.size RB3.out.lt (by intro e; simp [Value.ownBlock] at e; exact NE3.out e)))
        have NE4 := Lib.hid (show ¬ WA1.heap.size = gPA4 by have h1 := RB3.out.lt; have h2 := NE3.out; rcases hat with h | h; (simp [Value.ownBlock] at h; omega); omega)
        clear hown hgrow hat hglt
        refine hK.out _ _ (HS.out _ B4.out) (fun hHeld1 => ?_)
        clear hK K hHeld
        have hHeld := hHeld1; clear hHeld1
        try simp only [List.getElem_toArray, List.getElem_cons_succ, List.getElem_cons_zero, Act.put, List.setIfInBounds_toArray, List.set_cons_zero, List.set_cons_succ]
        refine wpAnyH_ready (rs := [6]) (by kernel_rfl) (by simp) (AllReadyH.cons rfl (fun K hK => ?_) AllReadyH.nil)
        simp only [List.getElem_toArray, List.getElem_cons_succ, List.getElem_cons_zero]
        refine wp_append_lies WA4 (.tmp 22) (.tmp 24) 23 rfl wd.heap.size 25 i0 (.agg #[.int .i64 0, .string ⟨#[]⟩, .string ⟨#[]⟩, .slice none 0 0, .slice none 0 0]) 5 88 Tryz.underlying23 hi hz0 hz1 hz2 rfl (by decide) (.slice (some ⟨gPA4, 0, none⟩) n capA4) n xsF rfl O4.out ⟨WA1.heap.size, 0, none⟩ 1 1 [.int .i64 xk, .string xn, .string xo, .slice xa x1 xc, .slice xb x2 xd] rfl rfl (World.news_of_block (show WA4.heap[WA1.heap.size]? = some (.cells #[.int .i64 xk, .string xn, .string xo, .slice xa x1 xc, .slice xb x2 xd] 25 (0, 0)) from RB4.out)) (by intro u hu; simp at hu; rcases hu with rfl | rfl | rfl | rfl | rfl <;> rfl) (by decide) (by unfold maxLen; omega) (by omega) B4.out.size WA4.heap.size rfl ?_
        intro gQ capQ WQ hown hgrow hat hglt
        have BQ := Lib.hid (show Below wd.heap.size wd WQ from own_below B4.out O4.out hgrow)
        try simp only [Nat.zero_add, List.nil_append] at hown
        have OQ := Lib.hid hown
        clear hown hgrow hat hglt
        refine hK.out _ _ (HS.out _ BQ.out) (fun hHeld1 => ?_)
        clear hK K hHeld
        have hHeld := hHeld1; clear hHeld1
        try simp only [List.getElem_toArray, List.getElem_cons_succ, List.getElem_cons_zero, Act.put, List.setIfInBounds_toArray, List.set_cons_zero, List.set_cons_succ]
        refine wpAnyH_take (i := 7) (v := ?vZ2) rfl (by kernel_rfl) (by kernel_rfl) (by kernel_rfl) (fun _ _ _ h => h) (Or.inl ⟨by rfl, ?yZ2⟩) hHeld ?rZ2
        case yZ2 => (intro W hSw; simp only [List.getElem_toArray, List.getElem_cons_succ, List.getElem_cons_zero]; go_simp; try (with_reducible rfl))
        simp only [List.getElem_toArray, List.getElem_cons_succ, List.getElem_cons_zero, Act.put, List.setIfInBounds_toArray, List.set_cons_zero, List.set_cons_succ]
        refine wpAnyH_ready (rs := [8]) (by kernel_rfl) (by simp) (AllReadyH.cons rfl (fun K hK => ?_) AllReadyH.nil)
        simp only [List.getElem_toArray, List.getElem_cons_succ, List.getElem_cons_zero]
        have XF := R0.out.later BQ.out
        obtain ⟨j0, j1, j2, j3, j4⟩ := XF.box
        have jl : w.heap.size < WQ.heap.size := XF.lt
        have jf : WQ.frozen? ⟨w.heap.size, 4, none⟩ = false := rw_frozen XF 4
        have jq : ¬ w.heap.size = q1 := by have := HQ1.out; omega
        have jn : ¬ q1 = w.heap.size := fun e => jq e.symm
        go_simp
        refine hK.out _ _ (HS2.out _ _ BQ.out) (fun hHeld1 => ?_)
        clear hK K hHeld
        have hHeld := hHeld1; clear hHeld1
        try simp only [List.getElem_toArray, List.getElem_cons_succ, List.getElem_cons_zero, Act.put, List.setIfInBounds_toArray, List.set_cons_zero, List.set_cons_succ]
        refine wpAnyH_done (by kernel_rfl) ?_ _
        have YF := Lib.hid (show Rw (WQ.setCell ⟨w.heap.size, 4, none⟩ (.slice (some ⟨gQ, 0, none⟩) (n + 1) capQ)) q2 #[.int .i64 0, .string ⟨#[]⟩, .string ⟨#[]⟩, .slice none 0 0, .slice none 0 0] from (Z0.out.later BQ.out).same (Below.heap_setCell _ _ _ _ (by have := HQ1.out; simp only; omega)))
        go_wp2_with (skip; (refine wpList_store_rowTo rfl _ _ _ rfl rfl q2 _ rfl rfl _ #[.int .i64 0, .string ⟨#[]⟩, .string ⟨#[]⟩, .slice none 0 0, .slice none 0 0] (by first | exact YF.out) (by kernel_rfl) rfl (by simp [Value.oneCell']) ?_))
        refine retF Tryz.results43 rfl (YF.out.set _).box rfl ?_
        have HB1 : w.grownBy WQ (some w.heap.size) := gr_of_below (BW3.out.trans (BQ.out.mono BW3.out.size))
        have HB2 : w.grownBy (WQ.setCell ⟨w.heap.size, 4, none⟩ (.slice (some ⟨gQ, 0, none⟩) (n + 1) capQ)) (some w.heap.size) := gr_new HB1 (Nat.le_refl _) (.slice (some ⟨gQ, 0, none⟩) (n + 1) capQ)
        have HB3 : w.grownBy ((WQ.setCell ⟨w.heap.size, 4, none⟩ (.slice (some ⟨gQ, 0, none⟩) (n + 1) capQ)).setRow q2 #[.int .i64 k, .string ⟨#[]⟩, .string ⟨#[]⟩, .slice none 0 0, (.slice (some ⟨gQ, 0, none⟩) (n + 1) capQ)]) (some w.heap.size) := gr_row HB2 (by have := HQ1.out; omega) _
        have HB : Below w.heap.size w ((WQ.setCell ⟨w.heap.size, 4, none⟩ (.slice (some ⟨gQ, 0, none⟩) (n + 1) capQ)).setRow q2 #[.int .i64 k, .string ⟨#[]⟩, .string ⟨#[]⟩, .slice none 0 0, (.slice (some ⟨gQ, 0, none⟩) (n + 1) capQ)]) := gr_below HB3 (Nat.le_refl _) (Nat.le_refl _)
        have HO := own_keep (own_keep OQ.out (V := WQ.setCell ⟨w.heap.size, 4, none⟩ (.slice (some ⟨gQ, 0, none⟩) (n + 1) capQ)) fun g hg => Below.heap_setCell _ _ _ _ (by have := (own_lt'' OQ.out hg).1; have := HQ1.out; simp only; omega)) (V := (WQ.setCell ⟨w.heap.size, 4, none⟩ (.slice (some ⟨gQ, 0, none⟩) (n + 1) capQ)).setRow q2 #[.int .i64 k, .string ⟨#[]⟩, .string ⟨#[]⟩, .slice none 0 0, (.slice (some ⟨gQ, 0, none⟩) (n + 1) capQ)]) fun g hg => setRow_other _ _ _ _ (by have := (own_lt'' OQ.out hg).1; have := HQ1.out; omega)
        exact add_end HK64.out HQ1.out.2.2 HB HSL.out HXF0.out (by have := RowF.one (c := xc) (d := xd) HX.out; rw [HXE.out] at this; exact this) HO (by rw [List.length_append, ← HN.out]; rfl) (by unfold maxLen; omega)
    · simp only [List.getElem_toArray, List.getElem_cons_succ, List.getElem_cons_zero]
      go_simp
      obtain ⟨WA2, hWn⟩ : ∃ v, v = WA1.alloc (.cells #[.int .i64 xk, .string xn, .string xo, .slice xa x1 xc, .slice xb x2 xd] 25) := ⟨_, rfl⟩
      rw [← hWn]
      have B2 := Lib.hid (show Below wd.heap.size wd WA2 by rw [hWn]; exact B1.out.alloc B1.out.size _)
      have RB2 := Lib.hid (show Rw WA2 WA1.heap.size #[.int .i64 xk, .string xn, .string xo, .slice xa x1 xc, .slice xb x2 xd] by rw [hWn]; exact Rw.new ..)
      have O2 := Lib.hid (show WA2.ownsRow wd.heap.size 25 5 _ _ _ by rw [hWn]; exact own_keep O1.out fun g hg => Below.heap_alloc _ _ _ (own_lt'' O1.out hg).2)
      have NE2 := Lib.hid (show ¬ WA1.heap.size = wd.heap.size by intro e; have := (own_lt'' (g := wd.heap.size) O1.out rfl).2; omega)
      clear hWn
      refine hK.out _ _ (HS.out _ B2.out) (fun hHeld1 => ?_)
      clear hK K hHeld
      have hHeld := hHeld1; clear hHeld1
      try simp only [List.getElem_toArray, List.getElem_cons_succ, List.getElem_cons_zero, Act.put, List.setIfInBounds_toArray, List.set_cons_zero, List.set_cons_succ]
      refine wpAnyH_ready (rs := [2]) (by kernel_rfl) (by simp) (AllReadyH.cons rfl (fun K hK => ?_) AllReadyH.nil)
      simp only [List.getElem_toArray, List.getElem_cons_succ, List.getElem_cons_zero]
      obtain ⟨j0, j1, j2, j3, j4⟩ := (R0.out.later B2.out).box
      go_simp
      clear j0 j1 j2 j3 j4
      have B3 := B2
      have O3 := O2
      have RB3 := RB2
      have NE3 := NE2
      refine hK.out _ _ (HS.out _ B3.out) (fun hHeld1 => ?_)
      clear hK K hHeld
      have hHeld := hHeld1; clear hHeld1
      try simp only [List.getElem_toArray, List.getElem_cons_succ, List.getElem_cons_zero, Act.put, List.setIfInBounds_toArray, List.set_cons_zero, List.set_cons_succ]
      refine wpAnyH_ready (rs := [3]) (by kernel_rfl) (by simp) (AllReadyH.cons rfl (fun K hK => ?_) AllReadyH.nil)
      simp only [List.getElem_toArray, List.getElem_cons_succ, List.getElem_cons_zero]
      refine wp_append_lies WA2 (.tmp 19) (.tmp 21) 23 rfl wd.heap.size 25 i0 (.agg #[.int .i64 0, .string ⟨#[]⟩, .string ⟨#[]⟩, .slice none 0 0, .slice none 0 0]) 5 88 Tryz.underlying23 hi hz0 hz1 hz2 rfl (by decide) (.slice (some ⟨wd.heap.size, 0, none⟩) 0 0) 0 [] rfl O3.out ⟨gF, oF, none⟩ n d xsF rfl HXF.out.1 (fun j u hu => lies_later B3.out HGF.out HLF.out j u hu) HXF.out.2.1 hn0 (by unfold maxLen; omega) (by omega) B3.out.size WA2.heap.size rfl ?_
      intro gPA4 capA4 WA4 hown hgrow hat hglt
      have B4 := Lib.hid (show Below wd.heap.size wd WA4 from own_below B3.out O3.out hgrow)
      try simp only [Nat.zero_add, List.nil_append] at hown
      have O4 := Lib.hid hown
      try simp only [Nat.zero_add]
      have RB4 := Lib.hid (show Rw WA4 WA1.heap.size #[.int .i64 xk, .string xn, .string xo, .slice xa x1 xc, .slice xb x2 xd] from RB3.out.same (hgrow.block WA1.heap.size RB3.out.lt (by intro e; simp [Value.ownBlock] at e; exact NE3.out e)))
      have NE4 := Lib.hid (show ¬ WA1.heap.size = gPA4 by have h1 := RB3.out.lt; have h2 := NE3.out; rcases hat with h | h; (simp [Value.ownBlock] at h; omega); omega)
      clear hown hgrow hat hglt
      refine hK.out _ _ (HS.out _ B4.out) (fun hHeld1 => ?_)
      clear hK K hHeld
      have hHeld := hHeld1; clear hHeld1
      try simp only [List.getElem_toArray, List.getElem_cons_succ, List.getElem_cons_zero, Act.put, List.setIfInBounds_toArray, List.set_cons_zero, List.set_cons_succ]
      refine wpAnyH_ready (rs := [6]) (by kernel_rfl) (by simp) (AllReadyH.cons rfl (fun K hK => ?_) AllReadyH.nil)
      simp only [List.getElem_toArray, List.getElem_cons_succ, List.getElem_cons_zero]
      refine wp_append_lies WA4 (.tmp 22) (.tmp 24) 23 rfl wd.heap.size 25 i0 (.agg #[.int .i64 0, .string ⟨#[]⟩, .string ⟨#[]⟩, .slice none 0 0, .slice none 0 0]) 5 88 Tryz.underlying23 hi hz0 hz1 hz2 rfl (by decide) (.slice (some ⟨gPA4, 0, none⟩) n capA4) n xsF rfl O4.out ⟨WA1.heap.size, 0, none⟩ 1 1 [.int .i64 xk, .string xn, .string xo, .slice xa x1 xc, .slice xb x2 xd] rfl rfl (World.news_of_block (show WA4.heap[WA1.heap.size]? = some (.cells #[.int .i64 xk, .string xn, .string xo, .slice xa x1 xc, .slice xb x2 xd] 25 (0, 0)) from RB4.out)) (by intro u hu; simp at hu; rcases hu with rfl | rfl | rfl | rfl | rfl <;> rfl) (by decide) (by unfold maxLen; omega) (by omega) B4.out.size WA4.heap.size rfl ?_
      intro gQ capQ WQ hown hgrow hat hglt
      have BQ := Lib.hid (show Below wd.heap.size wd WQ from own_below B4.out O4.out hgrow)
      try simp only [Nat.zero_add, List.nil_append] at hown
      have OQ := Lib.hid hown
      clear hown hgrow hat hglt
      refine hK.out _ _ (HS.out _ BQ.out) (fun hHeld1 => ?_)
      clear hK K hHeld
      have hHeld := hHeld1; clear hHeld1
      try simp only [List.getElem_toArray, List.getElem_cons_succ, List.getElem_cons_zero, Act.put, List.setIfInBounds_toArray, List.set_cons_zero, List.set_cons_succ]
      refine wpAnyH_take (i := 7) (v := ?vZ3) rfl (by kernel_rfl) (by kernel_rfl) (by kernel_rfl) (fun _ _ _ h => h) (Or.inl ⟨by rfl, ?yZ3⟩) hHeld ?rZ3
      case yZ3 => (intro W hSw; simp only [List.getElem_toArray, List.getElem_cons_succ, List.getElem_cons_zero]; go_simp; try (with_reducible rfl))
      simp only [List.getElem_toArray, List.getElem_cons_succ, List.getElem_cons_zero, Act.put, List.setIfInBounds_toArray, List.set_cons_zero, List.set_cons_succ]
      refine wpAnyH_ready (rs := [8]) (by kernel_rfl) (by simp) (AllReadyH.cons rfl (fun K hK => ?_) AllReadyH.nil)
      simp only [List.getElem_toArray, List.getElem_cons_succ, List.getElem_cons_zero]
      have XF := R0.out.later BQ.out
      obtain ⟨j0, j1, j2, j3, j4⟩ := XF.box
      have jl : w.heap.size < WQ.heap.size := XF.lt
      have jf : WQ.frozen? ⟨w.heap.size, 4, none⟩ = false := rw_frozen XF 4
      have jq : ¬ w.heap.size = q1 := by have := HQ1.out; omega
      have jn : ¬ q1 = w.heap.size := fun e => jq e.symm
      go_simp
      refine hK.out _ _ (HS2.out _ _ BQ.out) (fun hHeld1 => ?_)
      clear hK K hHeld
      have hHeld := hHeld1; clear hHeld1
      try simp only [List.getElem_toArray, List.getElem_cons_succ, List.getElem_cons_zero, Act.put, List.setIfInBounds_toArray, List.set_cons_zero, List.set_cons_succ]
      refine wpAnyH_done (by kernel_rfl) ?_ _
      have YF := Lib.hid (show Rw (WQ.setCell ⟨w.heap.size, 4, none⟩ (.slice (some ⟨gQ, 0, none⟩) (n + 1) capQ)) q2 #[.int .i64 0, .string ⟨#[]⟩, .string ⟨#[]⟩, .slice none 0 0, .slice none 0 0] from (Z0.out.later BQ.out).same (Below.heap_setCell _ _ _ _ (by have := HQ1.out; simp only; omega)))
      go_wp2_with (skip; (refine wpList_store_rowTo rfl _ _ _ rfl rfl q2 _ rfl rfl _ #[.int .i64 0, .string ⟨#[]⟩, .string ⟨#[]⟩, .slice none 0 0, .slice none 0 0] (by first | exact YF.out) (by kernel_rfl) rfl (by simp [Value.oneCell']) ?_))
      refine retF Tryz.results43 rfl (YF.out.set _).box rfl ?_
      have HB1 : w.grownBy WQ (some w.heap.size) := gr_of_below (BW3.out.trans (BQ.out.mono BW3.out.size))
      have HB2 : w.grownBy (WQ.setCell ⟨w.heap.size, 4, none⟩ (.slice (some ⟨gQ, 0, none⟩) (n + 1) capQ)) (some w.heap.size) := gr_new HB1 (Nat.le_refl _) (.slice (some ⟨gQ, 0, none⟩) (n + 1) capQ)
      have HB3 : w.grownBy ((WQ.setCell ⟨w.heap.size, 4, none⟩ (.slice (some ⟨gQ, 0, none⟩) (n + 1) capQ)).setRow q2 #[.int .i64 k, .string ⟨#[]⟩, .string ⟨#[]⟩, .slice none 0 0, (.slice (some ⟨gQ, 0, none⟩) (n + 1) capQ)]) (some w.heap.size) := gr_row HB2 (by have := HQ1.out; omega) _
      have HB : Below w.heap.size w ((WQ.setCell ⟨w.heap.size, 4, none⟩ (.slice (some ⟨gQ, 0, none⟩) (n + 1) capQ)).setRow q2 #[.int .i64 k, .string ⟨#[]⟩, .string ⟨#[]⟩, .slice none 0 0, (.slice (some ⟨gQ, 0, none⟩) (n + 1) capQ)]) := gr_below HB3 (Nat.le_refl _) (Nat.le_refl _)
      have HO := own_keep (own_keep OQ.out (V := WQ.setCell ⟨w.heap.size, 4, none⟩ (.slice (some ⟨gQ, 0, none⟩) (n + 1) capQ)) fun g hg => Below.heap_setCell _ _ _ _ (by have := (own_lt'' OQ.out hg).1; have := HQ1.out; simp only; omega)) (V := (WQ.setCell ⟨w.heap.size, 4, none⟩ (.slice (some ⟨gQ, 0, none⟩) (n + 1) capQ)).setRow q2 #[.int .i64 k, .string ⟨#[]⟩, .string ⟨#[]⟩, .slice none 0 0, (.slice (some ⟨gQ, 0, none⟩) (n + 1) capQ)]) fun g hg => setRow_other _ _ _ _ (by have := (own_lt'' OQ.out hg).1; have := HQ1.out; omega)
      exact add_end HK64.out HQ1.out.2.2 HB HSL.out HXF0.out (by have := RowF.one (c := xc) (d := xd) HX.out; rw [HXE.out] at this; exact this) HO (by rw [List.length_append, ← HN.out]; rfl) (by unfold maxLen; omega)
  · simp only [List.getElem_toArray, List.getElem_cons_succ, List.getElem_cons_zero]
    obtain ⟨j0, j1, j2, j3, j4⟩ := (R0.out.later B0.out).box
    go_simp
    clear j0 j1 j2 j3 j4
    have B1 := B0
    refine hK.out _ _ (HS.out _ B1.out) (fun hHeld1 => ?_)
    clear hK K hHeld
    have hHeld := hHeld1; clear hHeld1
    try simp only [List.getElem_toArray, List.getElem_cons_succ, List.getElem_cons_zero, Act.put, List.setIfInBounds_toArray, List.set_cons_zero, List.set_cons_succ]
    refine wpAnyH_ready (rs := [0, 5]) (by kernel_rfl) (by simp) (AllReadyH.cons rfl (fun K hK => ?_) (AllReadyH.cons rfl (fun K hK => ?_) AllReadyH.nil))
    · simp only [List.getElem_toArray, List.getElem_cons_succ, List.getElem_cons_zero]
      refine wp_buildEmpty rfl hi ?_
      obtain ⟨WA2, hWn⟩ : ∃ v, v = wd.alloc (.cells #[] 25) := ⟨_, rfl⟩
      rw [← hWn]
      have B2 := Lib.hid (show Below wd.heap.size wd WA2 by rw [hWn]; exact B1.out.alloc B1.out.size _)
      have O2 := Lib.hid (show WA2.ownsRow wd.heap.size 25 5 (.slice (some ⟨wd.heap.size, 0, none⟩) 0 0) 0 [] by rw [hWn]; exact own_empty _ _ B1.out.size)
      clear hWn
      refine hK.out _ _ (HS.out _ B2.out) (fun hHeld1 => ?_)
      clear hK K hHeld
      have hHeld := hHeld1; clear hHeld1
      try simp only [List.getElem_toArray, List.getElem_cons_succ, List.getElem_cons_zero, Act.put, List.setIfInBounds_toArray, List.set_cons_zero, List.set_cons_succ]
      refine wpAnyH_ready (rs := [3, 5]) (by kernel_rfl) (by simp) (AllReadyH.cons rfl (fun K hK => ?_) (AllReadyH.cons rfl (fun K hK => ?_) AllReadyH.nil))
      · simp only [List.getElem_toArray, List.getElem_cons_succ, List.getElem_cons_zero]
        refine wp_append_lies WA2 (.tmp 19) (.tmp 21) 23 rfl wd.heap.size 25 i0 (.agg #[.int .i64 0, .string ⟨#[]⟩, .string ⟨#[]⟩, .slice none 0 0, .slice none 0 0]) 5 88 Tryz.underlying23 hi hz0 hz1 hz2 rfl (by decide) (.slice (some ⟨wd.heap.size, 0, none⟩) 0 0) 0 [] rfl O2.out ⟨gF, oF, none⟩ n d xsF rfl HXF.out.1 (fun j u hu => lies_later B2.out HGF.out HLF.out j u hu) HXF.out.2.1 hn0 (by unfold maxLen; omega) (by omega) B2.out.size WA2.heap.size rfl ?_
        intro gPA3 capA3 WA3 hown hgrow hat hglt
        have B3 := Lib.hid (show Below wd.heap.size wd WA3 from own_below B2.out O2.out hgrow)
        try simp only [Nat.zero_add, List.nil_append] at hown
        have O3 := Lib.hid hown
        try simp only [Nat.zero_add]
        clear hown hgrow hat hglt
        refine hK.out _ _ (HS.out _ B3.out) (fun hHeld1 => ?_)
        clear hK K hHeld
        have hHeld := hHeld1; clear hHeld1
        try simp only [List.getElem_toArray, List.getElem_cons_succ, List.getElem_cons_zero, Act.put, List.setIfInBounds_toArray, List.set_cons_zero, List.set_cons_succ]
        refine wpAnyH_ready (rs := [5]) (by kernel_rfl) (by simp) (AllReadyH.cons rfl (fun K hK => ?_) AllReadyH.nil)
        simp only [List.getElem_toArray, List.getElem_cons_succ, List.getElem_cons_zero]
        go_simp
        obtain ⟨WA4, hWn⟩ : ∃ v, v = WA3.alloc (.cells #[.int .i64 xk, .string xn, .string xo, .slice xa x1 xc, .slice xb x2 xd] 25) := ⟨_, rfl⟩
        rw [← hWn]
        have B4 := Lib.hid (show Below wd.heap.size wd WA4 by rw [hWn]; exact B3.out.alloc B3.out.size _)
        have RB4 := Lib.hid (show Rw WA4 WA3.heap.size #[.int .i64 xk, .string xn, .string xo, .slice xa x1 xc, .slice xb x2 xd] by rw [hWn]; exact Rw.new ..)
        have O4 := Lib.hid (show WA4.ownsRow wd.heap.size 25 5 _ _ _ by rw [hWn]; exact own_keep O3.out fun g hg => Below.heap_alloc _ _ _ (own_lt'' O3.out hg).2)
        have NE4 := Lib.hid (show ¬ WA3.heap.size = gPA3 by intro e; have := (own_lt'' (g := gPA3) O3.out rfl).2; omega)
        clear hWn
        refine hK.out _ _ (HS.out _ B4.out) (fun hHeld1 => ?_)
        clear hK K hHeld
        have hHeld := hHeld1; clear hHeld1
        try simp only [List.getElem_toArray, List.getElem_cons_succ, List.getElem_cons_zero, Act.put, List.setIfInBounds_toArray, List.set_cons_zero, List.set_cons_succ]
        refine wpAnyH_ready (rs := [6]) (by kernel_rfl) (by simp) (AllReadyH.cons rfl (fun K hK => ?_) AllReadyH.nil)
        simp only [List.getElem_toArray, List.getElem_cons_succ, List.getElem_cons_zero]
        refine wp_append_lies WA4 (.tmp 22) (.tmp 24) 23 rfl wd.heap.size 25 i0 (.agg #[.int .i64 0, .string ⟨#[]⟩, .string ⟨#[]⟩, .slice none 0 0, .slice none 0 0]) 5 88 Tryz.underlying23 hi hz0 hz1 hz2 rfl (by decide) (.slice (some ⟨gPA3, 0, none⟩) n capA3) n xsF rfl O4.out ⟨WA3.heap.size, 0, none⟩ 1 1 [.int .i64 xk, .string xn, .string xo, .slice xa x1 xc, .slice xb x2 xd] rfl rfl (World.news_of_block (show WA4.heap[WA3.heap.size]? = some (.cells #[.int .i64 xk, .string xn, .string xo, .slice xa x1 xc, .slice xb x2 xd] 25 (0, 0)) from RB4.out)) (by intro u hu; simp at hu; rcases hu with rfl | rfl | rfl | rfl | rfl <;> rfl) (by decide) (by unfold maxLen; omega) (by omega) B4.out.size WA4.heap.size rfl ?_
        intro gQ capQ WQ hown hgrow hat hglt
        have BQ := Lib.hid (show Below wd.heap.size wd WQ from own_below B4.out O4.out hgrow)
        try simp only [Nat.zero_add, List.nil_append] at hown
        have OQ := Lib.hid hown
        clear hown hgrow hat hglt
        refine hK.out _ _ (HS.out _ BQ.out) (fun hHeld1 => ?_)
        clear hK K hHeld
        have hHeld := hHeld1; clear hHeld1
        try simp only [List.getElem_toArray, List.getElem_cons_succ, List.getElem_cons_zero, Act.put, List.setIfInBounds_toArray, List.set_cons_zero, List.set_cons_succ]
        refine wpAnyH_take (i := 7) (v := ?vZ4) rfl (by kernel_rfl) (by kernel_rfl) (by kernel_rfl) (fun _ _ _ h => h) (Or.inl ⟨by rfl, ?yZ4⟩) hHeld ?rZ4
        case yZ4 => (intro W hSw; simp only [List.getElem_toArray, List.getElem_cons_succ, List.getElem_cons_zero]; go_simp; try (with_reducible rfl))
        simp only [List.getElem_toArray, List.getElem_cons_succ, List.getElem_cons_zero, Act.put, List.setIfInBounds_toArray, List.set_cons_zero, List.set_cons_succ]
        refine wpAnyH_ready (rs := [8]) (by kernel_rfl) (by simp) (AllReadyH.cons rfl (fun K hK => ?_) AllReadyH.nil)
        simp only [List.getElem_toArray, List.getElem_cons_succ, List.getElem_cons_zero]
        have XF := R0.out.later BQ.out
        obtain ⟨j0, j1, j2, j3, j4⟩ := XF.box
        have jl : w.heap.size < WQ.heap.size := XF.lt
        have jf : WQ.frozen? ⟨w.heap.size, 4, none⟩ = false := rw_frozen XF 4
        have jq : ¬ w.heap.size = q1 := by have := HQ1.out; omega
        have jn : ¬ q1 = w.heap.size := fun e => jq e.symm
        go_simp
        refine hK.out _ _ (HS2.out _ _ BQ.out) (fun hHeld1 => ?_)
        clear hK K hHeld
        have hHeld := hHeld1; clear hHeld1
        try simp only [List.getElem_toArray, List.getElem_cons_succ, List.getElem_cons_zero, Act.put, List.setIfInBounds_toArray, List.set_cons_zero, List.set_cons_succ]
        refine wpAnyH_done (by kernel_rfl) ?_ _
        have YF := Lib.hid (show Rw (WQ.setCell ⟨w.heap.size, 4, none⟩ (.slice (some ⟨gQ, 0, none⟩) (n + 1) capQ)) q2 #[.int .i64 0, .string ⟨#[]⟩, .string ⟨#[]⟩, .slice none 0 0, .slice none 0 0] from (Z0.out.later BQ.out).same (Below.heap_setCell _ _ _ _ (by have := HQ1.out; simp only; omega)))
        go_wp2_with (skip; (refine wpList_store_rowTo rfl _ _ _ rfl rfl q2 _ rfl rfl _ #[.int .i64 0, .string ⟨#[]⟩, .string ⟨#[]⟩, .slice none 0 0, .slice none 0 0] (by first | exact YF.out) (by kernel_rfl) rfl (by simp [Value.oneCell']) ?_))
        refine retF Tryz.results43 rfl (YF.out.set _).box rfl ?_
        have HB1 : w.grownBy WQ (some w.heap.size) := gr_of_below (BW3.out.trans (BQ.out.mono BW3.out.size))
        have HB2 : w.grownBy (WQ.setCell ⟨w.heap.size, 4, none⟩ (.slice (some ⟨gQ, 0, none⟩) (n + 1) capQ)) (some w.heap.size) := gr_new HB1 (Nat.le_refl _) (.slice (some ⟨gQ, 0, none⟩) (n + 1) capQ)
        have HB3 : w.grownBy ((WQ.setCell ⟨w.heap.size, 4, none⟩ (.slice (some ⟨gQ, 0, none⟩) (n + 1) capQ)).setRow q2 #[.int .i64 k, .string ⟨#[]⟩, .string ⟨#[]⟩, .slice none 0 0, (.slice (some ⟨gQ, 0, none⟩) (n + 1) capQ)]) (some w.heap.size) := gr_row HB2 (by have := HQ1.out; omega) _
        have HB : Below w.heap.size w ((WQ.setCell ⟨w.heap.size, 4, none⟩ (.slice (some ⟨gQ, 0, none⟩) (n + 1) capQ)).setRow q2 #[.int .i64 k, .string ⟨#[]⟩, .string ⟨#[]⟩, .slice none 0 0, (.slice (some ⟨gQ, 0, none⟩) (n + 1) capQ)]) := gr_below HB3 (Nat.le_refl _) (Nat.le_refl _)
        have HO := own_keep (own_keep OQ.out (V := WQ.setCell ⟨w.heap.size, 4, none⟩ (.slice (some ⟨gQ, 0, none⟩) (n + 1) capQ)) fun g hg => Below.heap_setCell _ _ _ _ (by have := (own_lt'' OQ.out hg).1; have := HQ1.out; simp only; omega)) (V := (WQ.setCell ⟨w.heap.size, 4, none⟩ (.slice (some ⟨gQ, 0, none⟩) (n + 1) capQ)).setRow q2 #[.int .i64 k, .string ⟨#[]⟩, .string ⟨#[]⟩, .slice none 0 0, (.slice (some ⟨gQ, 0, none⟩) (n + 1) capQ)]) fun g hg => setRow_other _ _ _ _ (by have := (own_lt'' OQ.out hg).1; have := HQ1.out; omega)
        exact add_end HK64.out HQ1.out.2.2 HB HSL.out HXF0.out (by have := RowF.one (c := xc) (d := xd) HX.out; rw [HXE.out] at this; exact this) HO (by rw [List.length_append, ← HN.out]; rfl) (by unfold maxLen; omega)
      · simp only [List.getElem_toArray, List.getElem_cons_succ, List.getElem_cons_zero]
        go_simp
        obtain ⟨WA3, hWn⟩ : ∃ v, v = WA2.alloc (.cells #[.int .i64 xk, .string xn, .string xo, .slice xa x1 xc, .slice xb x2 xd] 25) := ⟨_, rfl⟩
        rw [← hWn]
        have B3 := Lib.hid (show Below wd.heap.size wd WA3 by rw [hWn]; exact B2.out.alloc B2.out.size _)
        have RB3 := Lib.hid (show Rw WA3 WA2.heap.size #[.int .i64 xk, .string xn, .string xo, .slice xa x1 xc, .slice xb x2 xd] by rw [hWn]; exact Rw.new ..)
        have O3 := Lib.hid (show WA3.ownsRow wd.heap.size 25 5 _ _ _ by rw [hWn]; exact own_keep O2.out fun g hg => Below.heap_alloc _ _ _ (own_lt'' O2.out hg).2)
        have NE3 := Lib.hid (show ¬ WA2.heap.size = wd.heap.size by intro e; have := (own_lt'' (g := wd.heap.size) O2.out rfl).2; omega)
        clear hWn
        refine hK.out _ _ (HS.out _ B3.out) (fun hHeld1 => ?_)
        clear hK K hHeld
        have hHeld := hHeld1; clear hHeld1
        try simp only [List.getElem_toArray, List.getElem_cons_succ, List.getElem_cons_zero, Act.put, List.setIfInBounds_toArray, List.set_cons_zero, List.set_cons_succ]
        refine wpAnyH_ready (rs := [3]) (by kernel_rfl) (by simp) (AllReadyH.cons rfl (fun K hK => ?_) AllReadyH.nil)
        simp only [List.getElem_toArray, List.getElem_cons_succ, List.getElem_cons_zero]
        refine wp_append_lies WA3 (.tmp 19) (.tmp 21) 23 rfl wd.heap.size 25 i0 (.agg #[.int .i64 0, .string ⟨#[]⟩, .string ⟨#[]⟩, .slice none 0 0, .slice none 0 0]) 5 88 Tryz.underlying23 hi hz0 hz1 hz2 rfl (by decide) (.slice (some ⟨wd.heap.size, 0, none⟩) 0 0) 0 [] rfl O3.out ⟨gF, oF, none⟩ n d xsF rfl HXF.out.1 (fun j u hu => lies_later B3.out HGF.out HLF.out j u hu) HXF.out.2.1 hn0 (by unfold maxLen; omega) (by omega) B3.out.size WA3.heap.size rfl ?_
        intro gPA4 capA4 WA4 hown hgrow hat hglt
        have B4 := Lib.hid (show Below wd.heap.size wd WA4 from own_below B3.out O3.out hgrow)
        try simp only [Nat.zero_add, List.nil_append] at hown
        have O4 := Lib.hid hown
        try simp only [Nat.zero_add]
        have RB4 := Lib.hid (show Rw WA4 WA2.heap.size #[.int .i64 xk, .string xn, .string xo, .slice xa x1 xc, .slice xb x2 xd] from RB3.out.same (hgrow.block WA2.heap.size RB3.out.lt (by intro e; simp [Value.ownBlock] at e; exact NE3.out e)))
        have NE4 := Lib.hid (show ¬ WA2.heap.size = gPA4 by have h1 := RB3.out.lt; have h2 := NE3.out; rcases hat with h | h; (simp [Value.ownBlock] at h; omega); omega)
        clear hown hgrow hat hglt
        refine hK.out _ _ (HS.out _ B4.out) (fun hHeld1 => ?_)
        clear hK K hHeld
        have hHeld := hHeld1; clear hHeld1
        try simp only [List.getElem_toArray, List.getElem_cons_succ, List.getElem_cons_zero, Act.put, List.setIfInBounds_toArray, List.set_cons_zero, List.set_cons_succ]
        refine wpAnyH_ready (rs := [6]) (by kernel_rfl) (by simp) (AllReadyH.cons rfl (fun K hK => ?_) AllReadyH.nil)
        simp only [List.getElem_toArray, List.getElem_cons_succ, List.getElem_cons_zero]
        refine wp_append_lies WA4 (.tmp 22) (.tmp 24) 23 rfl wd.heap.size 25 i0 (.agg #[.int .i64 0, .string ⟨#[]⟩, .string ⟨#[]⟩, .slice none 0 0, .slice none 0 0]) 5 88 Tryz.underlying23 hi hz0 hz1 hz2 rfl (by decide) (.slice (some ⟨gPA4, 0, none⟩) n capA4) n xsF rfl O4.out ⟨WA2.heap.size, 0, none⟩ 1 1 [.int .i64 xk, .string xn, .string xo, .slice xa x1 xc, .slice xb x2 xd] rfl rfl (World.news_of_block (show WA4.heap[WA2.heap.size]? = some (.cells #[.int .i64 xk, .string xn, .string xo, .slice xa x1 xc, .slice xb x2 xd] 25 (0, 0)) from RB4.out)) (by intro u hu; simp at hu; rcases hu with rfl | rfl | rfl | rfl | rfl <;> rfl) (by decide) (by unfold maxLen; omega) (by omega) B4.out.size WA4.heap.size rfl ?_
        intro gQ capQ WQ hown hgrow hat hglt
        have BQ := Lib.hid (show Below wd.heap.size wd WQ from own_below B4.out O4.out hgrow)
        try simp only [Nat.zero_add, List.nil_append] at hown
        have OQ := Lib.hid hown
        clear hown hgrow hat hglt
        refine hK.out _ _ (HS.out _ BQ.out) (fun hHeld1 => ?_)
        clear hK K hHeld
        have hHeld := hHeld1; clear hHeld1
        try simp only [List.getElem_toArray, List.getElem_cons_succ, List.getElem_cons_zero, Act.put, List.setIfInBounds_toArray, List.set_cons_zero, List.set_cons_succ]
        refine wpAnyH_take (i := 7) (v := ?vZ5) rfl (by kernel_rfl) (by kernel_rfl) (by kernel_rfl) (fun _ _ _ h => h) (Or.inl ⟨by rfl, ?yZ5⟩) hHeld ?rZ5
        case yZ5 => (intro W hSw; simp only [List.getElem_toArray, List.getElem_cons_succ, List.getElem_cons_zero]; go_simp; try (with_reducible rfl))
        simp only [List.getElem_toArray, List.getElem_cons_succ, List.getElem_cons_zero, Act.put, List.setIfInBounds_toArray, List.set_cons_zero, List.set_cons_succ]
        refine wpAnyH_ready (rs := [8]) (by kernel_rfl) (by simp) (AllReadyH.cons rfl (fun K hK => ?_) AllReadyH.nil)
        simp only [List.getElem_toArray, List.getElem_cons_succ, List.getElem_cons_zero]
        have XF := R0.out.later BQ.out
        obtain ⟨j0, j1, j2, j3, j4⟩ := XF.box
        have jl : w.heap.size < WQ.heap.size := XF.lt
        have jf : WQ.frozen? ⟨w.heap.size, 4, none⟩ = false := rw_frozen XF 4
        have jq : ¬ w.heap.size = q1 := by have := HQ1.out; omega
        have jn : ¬ q1 = w.heap.size := fun e => jq e.symm
        go_simp
        refine hK.out _ _ (HS2.out _ _ BQ.out) (fun hHeld1 => ?_)
        clear hK K hHeld
        have hHeld := hHeld1; clear hHeld1
        try simp only [List.getElem_toArray, List.getElem_cons_succ, List.getElem_cons_zero, Act.put, List.setIfInBounds_toArray, List.set_cons_zero, List.set_cons_succ]
        refine wpAnyH_done (by kernel_rfl) ?_ _
        have YF := Lib.hid (show Rw (WQ.setCell ⟨w.heap.size, 4, none⟩ (.slice (some ⟨gQ, 0, none⟩) (n + 1) capQ)) q2 #[.int .i64 0, .string ⟨#[]⟩, .string ⟨#[]⟩, .slice none 0 0, .slice none 0 0] from (Z0.out.later BQ.out).same (Below.heap_setCell _ _ _ _ (by have := HQ1.out; simp only; omega)))
        go_wp2_with (skip; (refine wpList_store_rowTo rfl _ _ _ rfl rfl q2 _ rfl rfl _ #[.int .i64 0, .string ⟨#[]⟩, .string ⟨#[]⟩, .slice none 0 0, .slice none 0 0] (by first | exact YF.out) (by kernel_rfl) rfl (by simp [Value.oneCell']) ?_))
        refine retF Tryz.results43 rfl (YF.out.set _).box rfl ?_
        have HB1 : w.grownBy WQ (some w.heap.size) := gr_of_below (BW3.out.trans (BQ.out.mono BW3.out.size))
        have HB2 : w.grownBy (WQ.setCell ⟨w.heap.size, 4, none⟩ (.slice (some ⟨gQ, 0, none⟩) (n + 1) capQ)) (some w.heap.size) := gr_new HB1 (Nat.le_refl _) (.slice (some ⟨gQ, 0, none⟩) (n + 1) capQ)
        have HB3 : w.grownBy ((WQ.setCell ⟨w.heap.size, 4, none⟩ (.slice (some ⟨gQ, 0, none⟩) (n + 1) capQ)).setRow q2 #[.int .i64 k, .string ⟨#[]⟩, .string ⟨#[]⟩, .slice none 0 0, (.slice (some ⟨gQ, 0, none⟩) (n + 1) capQ)]) (some w.heap.size) := gr_row HB2 (by have := HQ1.out; omega) _
        have HB : Below w.heap.size w ((WQ.setCell ⟨w.heap.size, 4, none⟩ (.slice (some ⟨gQ, 0, none⟩) (n + 1) capQ)).setRow q2 #[.int .i64 k, .string ⟨#[]⟩, .string ⟨#[]⟩, .slice none 0 0, (.slice (some ⟨gQ, 0, none⟩) (n + 1) capQ)]) := gr_below HB3 (Nat.le_refl _) (Nat.le_refl _)
        have HO := own_keep (own_keep OQ.out (V := WQ.setCell ⟨w.heap.size, 4, none⟩ (.slice (some ⟨gQ, 0, none⟩) (n + 1) capQ)) fun g hg => Below.heap_setCell _ _ _ _ (by have := (own_lt'' OQ.out hg).1; have := HQ1.out; simp only; omega)) (V := (WQ.setCell ⟨w.heap.size, 4, none⟩ (.slice (some ⟨gQ, 0, none⟩) (n + 1) capQ)).setRow q2 #[.int .i64 k, .string ⟨#[]⟩, .string ⟨#[]⟩, .slice none 0 0, (.slice (some ⟨gQ, 0, none⟩) (n + 1) capQ)]) fun g hg => setRow_other _ _ _ _ (by have := (own_lt'' OQ.out hg).1; have := HQ1.out; omega)
        exact add_end HK64.out HQ1.out.2.2 HB HSL.out HXF0.out (by have := RowF.one (c := xc) (d := xd) HX.out; rw [HXE.out] at this; exact this) HO (by rw [List.length_append, ← HN.out]; rfl) (by unfold maxLen; omega)
    · simp only [List.getElem_toArray, List.getElem_cons_succ, List.getElem_cons_zero]
      go_simp
      obtain ⟨WA2, hWn⟩ : ∃ v, v = wd.alloc (.cells #[.int .i64 xk, .string xn, .string xo, .slice xa x1 xc, .slice xb x2 xd] 25) := ⟨_, rfl⟩
      rw [← hWn]
      have B2 := Lib.hid (show Below wd.heap.size wd WA2 by rw [hWn]; exact B1.out.alloc B1.out.size _)
      have RB2 := Lib.hid (show Rw WA2 wd.heap.size #[.int .i64 xk, .string xn, .string xo, .slice xa x1 xc, .slice xb x2 xd] by rw [hWn]; exact Rw.new ..)
      clear hWn
      refine hK.out _ _ (HS.out _ B2.out) (fun hHeld1 => ?_)
      clear hK K hHeld
      have hHeld := hHeld1; clear hHeld1
      try simp only [List.getElem_toArray, List.getElem_cons_succ, List.getElem_cons_zero, Act.put, List.setIfInBounds_toArray, List.set_cons_zero, List.set_cons_succ]
      refine wpAnyH_ready (rs := [0]) (by kernel_rfl) (by simp) (AllReadyH.cons rfl (fun K hK => ?_) AllReadyH.nil)
      simp only [List.getElem_toArray, List.getElem_cons_succ, List.getElem_cons_zero]
      refine wp_buildEmpty rfl hi ?_
      obtain ⟨WA3, hWn⟩ : ∃ v, v = WA2.alloc (.cells #[] 25) := ⟨_, rfl⟩
      rw [← hWn]
      have B3 := Lib.hid (show Below wd.heap.size wd WA3 by rw [hWn]; exact B2.out.alloc B2.out.size _)
      have O3 := Lib.hid (show WA3.ownsRow wd.heap.size 25 5 (.slice (some ⟨WA2.heap.size, 0, none⟩) 0 0) 0 [] by rw [hWn]; exact own_empty _ _ B2.out.size)
      have RB3 := Lib.hid (show Rw WA3 wd.heap.size #[.int .i64 xk, .string xn, .string xo, .slice xa x1 xc, .slice xb x2 xd] by rw [hWn]; exact RB2.out.alloc _)
      have NE3 := Lib.hid (show ¬ wd.heap.size = WA2.heap.size by have := RB2.out.lt; omega)
      clear hWn
      refine hK.out _ _ (HS.out _ B3.out) (fun hHeld1 => ?_)
      clear hK K hHeld
      have hHeld := hHeld1; clear hHeld1
      try simp only [List.getElem_toArray, List.getElem_cons_succ, List.getElem_cons_zero, Act.put, List.setIfInBounds_toArray, List.set_cons_zero, List.set_cons_succ]
      refine wpAnyH_ready (rs := [3]) (by kernel_rfl) (by simp) (AllReadyH.cons rfl (fun K hK => ?_) AllReadyH.nil)
      simp only [List.getElem_toArray, List.getElem_cons_succ, List.getElem_cons_zero]
      refine wp_append_lies WA3 (.tmp 19) (.tmp 21) 23 rfl wd.heap.size 25 i0 (.agg #[.int .i64 0, .string ⟨#[]⟩, .string ⟨#[]⟩, .slice none 0 0, .slice none 0 0]) 5 88 Tryz.underlying23 hi hz0 hz1 hz2 rfl (by decide) (.slice (some ⟨WA2.heap.size, 0, none⟩) 0 0) 0 [] rfl O3.out ⟨gF, oF, none⟩ n d xsF rfl HXF.out.1 (fun j u hu => lies_later B3.out HGF.out HLF.out j u hu) HXF.out.2.1 hn0 (by unfold maxLen; omega) (by omega) B3.out.size WA3.heap.size rfl ?_
      intro gPA4 capA4 WA4 hown hgrow hat hglt
      have B4 := Lib.hid (show Below wd.heap.size wd WA4 from own_below B3.out O3.out hgrow)
      try simp only [Nat.zero_add, List.nil_append] at hown
      have O4 := Lib.hid hown
      try simp only [Nat.zero_add]
      have RB4 := Lib.hid (show Rw WA4 wd.heap.size #[.int .i64 xk, .string xn, .string xo, .slice xa x1 xc, .slice xb x2 xd] from RB3.out.same (hgrow.block wd.heap.size RB3.out.lt (by intro e; simp [Value.ownBlock] at e; exact NE3.out e)))
      have NE4 := Lib.hid (show ¬ wd.heap.size = gPA4 by have h1 := RB3.out.lt; have h2 := NE3.out; rcases hat with h | h; (simp [Value.ownBlock] at h; omega); omega)
      clear hown hgrow hat hglt
      refine hK.out _ _ (HS.out _ B4.out) (fun hHeld1 => ?_)
      clear hK K hHeld
      have hHeld := hHeld1; clear hHeld1
      try simp only [List.getElem_toArray, List.getElem_cons_succ, List.getElem_cons_zero, Act.put, List.setIfInBounds_toArray, List.set_cons_zero, List.set_cons_succ]
      refine wpAnyH_ready (rs := [6]) (by kernel_rfl) (by simp) (AllReadyH.cons rfl (fun K hK => ?_) AllReadyH.nil)
      simp only [List.getElem_toArray, List.getElem_cons_succ, List.getElem_cons_zero]
      refine wp_append_lies WA4 (.tmp 22) (.tmp 24) 23 rfl wd.heap.size 25 i0 (.agg #[.int .i64 0, .string ⟨#[]⟩, .string ⟨#[]⟩, .slice none 0 0, .slice none 0 0]) 5 88 Tryz.underlying23 hi hz0 hz1 hz2 rfl (by decide) (.slice (some ⟨gPA4, 0, none⟩) n capA4) n xsF rfl O4.out ⟨wd.heap.size, 0, none⟩ 1 1 [.int .i64 xk, .string xn, .string xo, .slice xa x1 xc, .slice xb x2 xd] rfl rfl (World.news_of_block (show WA4.heap[wd.heap.size]? = some (.cells #[.int .i64 xk, .string xn, .string xo, .slice xa x1 xc, .slice xb x2 xd] 25 (0, 0)) from RB4.out)) (by intro u hu; simp at hu; rcases hu with rfl | rfl | rfl | rfl | rfl <;> rfl) (by decide) (by unfold maxLen; omega) (by omega) B4.out.size WA4.heap.size rfl ?_
      intro gQ capQ WQ hown hgrow hat hglt
      have BQ := Lib.hid (show Below wd.heap.size wd WQ from own_below B4.out O4.out hgrow)
      try simp only [Nat.zero_add, List.nil_append] at hown
      have OQ := Lib.hid hown
      clear hown hgrow hat hglt
      refine hK.out _ _ (HS.out _ BQ.out) (fun hHeld1 => ?_)
      clear hK K hHeld
      have hHeld := hHeld1; clear hHeld1
      try simp only [List.getElem_toArray, List.getElem_cons_succ, List.getElem_cons_zero, Act.put, List.setIfInBounds_toArray, List.set_cons_zero, List.set_cons_succ]
      refine wpAnyH_take (i := 7) (v := ?vZ6) rfl (by kernel_rfl) (by kernel_rfl) (by kernel_rfl) (fun _ _ _ h => h) (Or.inl ⟨by rfl, ?yZ6⟩) hHeld ?rZ6
      case yZ6 => (intro W hSw; simp only [List.getElem_toArray, List.getElem_cons_succ, List.getElem_cons_zero]; go_simp; try (with_reducible rfl))
      simp only [List.getElem_toArray, List.getElem_cons_succ, List.getElem_cons_zero, Act.put, List.setIfInBounds_toArray, List.set_cons_zero, List.set_cons_succ]
      refine wpAnyH_ready (rs := [8]) (by kernel_rfl) (by simp) (AllReadyH.cons rfl (fun K hK => ?_) AllReadyH.nil)
      simp only [List.getElem_toArray, List.getElem_cons_succ, List.getElem_cons_zero]
      have XF := R0.out.later BQ.out
      obtain ⟨j0, j1, j2, j3, j4⟩ := XF.box
      have jl : w.heap.size < WQ.heap.size := XF.lt
      have jf : WQ.frozen? ⟨w.heap.size, 4, none⟩ = false := rw_frozen XF 4
      have jq : ¬ w.heap.size = q1 := by have := HQ1.out; omega
      have jn : ¬ q1 = w.heap.size := fun e => jq e.symm
      go_simp
      refine hK.out _ _ (HS2.out _ _ BQ.out) (fun hHeld1 => ?_)
      clear hK K hHeld
      have hHeld := hHeld1; clear hHeld1
      try simp only [List.getElem_toArray, List.getElem_cons_succ, List.getElem_cons_zero, Act.put, List.setIfInBounds_toArray, List.set_cons_zero, List.set_cons_succ]
      refine wpAnyH_done (by kernel_rfl) ?_ _
      have YF := Lib.hid (show Rw (WQ.setCell ⟨w.heap.size, 4, none⟩ (.slice (some ⟨gQ, 0, none⟩) (n + 1) capQ)) q2 #[.int .i64 0, .string ⟨#[]⟩, .string ⟨#[]⟩, .slice none 0 0, .slice none 0 0] from (Z0.out.later BQ.out).same (Below.heap_setCell _ _ _ _ (by have := HQ1.out; simp only; omega)))
      go_wp2_with (skip; (refine wpList_store_rowTo rfl _ _ _ rfl rfl q2 _ rfl rfl _ #[.int .i64 0, .string ⟨#[]⟩, .string ⟨#[]⟩, .slice none 0 0, .slice none 0 0] (by first | exact YF.out) (by kernel_rfl) rfl (by simp [Value.oneCell']) ?_))
      refine retF Tryz.results43 rfl (YF.out.set _).box rfl ?_
      have HB1 : w.grownBy WQ (some w.heap.size) := gr_of_below (BW3.out.trans (BQ.out.mono BW3.out.size))
      have HB2 : w.grownBy (WQ.setCell ⟨w.heap.size, 4, none⟩ (.slice (some ⟨gQ, 0, none⟩) (n + 1) capQ)) (some w.heap.size) := gr_new HB1 (Nat.le_refl _) (.slice (some ⟨gQ, 0, none⟩) (n + 1) capQ)
      have HB3 : w.grownBy ((WQ.setCell ⟨w.heap.size, 4, none⟩ (.slice (some ⟨gQ, 0, none⟩) (n + 1) capQ)).setRow q2 #[.int .i64 k, .string ⟨#[]⟩, .string ⟨#[]⟩, .slice none 0 0, (.slice (some ⟨gQ, 0, none⟩) (n + 1) capQ)]) (some w.heap.size) := gr_row HB2 (by have := HQ1.out; omega) _
      have HB : Below w.heap.size w ((WQ.setCell ⟨w.heap.size, 4, none⟩ (.slice (some ⟨gQ, 0, none⟩) (n + 1) capQ)).setRow q2 #[.int .i64 k, .string ⟨#[]⟩, .string ⟨#[]⟩, .slice none 0 0, (.slice (some ⟨gQ, 0, none⟩) (n + 1) capQ)]) := gr_below HB3 (Nat.le_refl _) (Nat.le_refl _)
      have HO := own_keep (own_keep OQ.out (V := WQ.setCell ⟨w.heap.size, 4, none⟩ (.slice (some ⟨gQ, 0, none⟩) (n + 1) capQ)) fun g hg => Below.heap_setCell _ _ _ _ (by have := (own_lt'' OQ.out hg).1; have := HQ1.out; simp only; omega)) (V := (WQ.setCell ⟨w.heap.size, 4, none⟩ (.slice (some ⟨gQ, 0, none⟩) (n + 1) capQ)).setRow q2 #[.int .i64 k, .string ⟨#[]⟩, .string ⟨#[]⟩, .slice none 0 0, (.slice (some ⟨gQ, 0, none⟩) (n + 1) capQ)]) fun g hg => setRow_other _ _ _ _ (by have := (own_lt'' OQ.out hg).1; have := HQ1.out; omega)
      exact add_end HK64.out HQ1.out.2.2 HB HSL.out HXF0.out (by have := RowF.one (c := xc) (d := xd) HX.out; rw [HXE.out] at this; exact this) HO (by rw [List.length_append, ← HN.out]; rfl) (by unfold maxLen; omega)
  · simp only [List.getElem_toArray, List.getElem_cons_succ, List.getElem_cons_zero]
    go_simp
    obtain ⟨WA1, hWn⟩ : ∃ v, v = wd.alloc (.cells #[.int .i64 xk, .string xn, .string xo, .slice xa x1 xc, .slice xb x2 xd] 25) := ⟨_, rfl⟩
    rw [← hWn]
    have B1 := Lib.hid (show Below wd.heap.size wd WA1 by rw [hWn]; exact B0.out.alloc B0.out.size _)
    have RB1 := Lib.hid (show Rw WA1 wd.heap.size #[.int .i64 xk, .string xn, .string xo, .slice xa x1 xc, .slice xb x2 xd] by rw [hWn]; exact Rw.new ..)
    clear hWn
    refine hK.out _ _ (HS.out _ B1.out) (fun hHeld1 => ?_)
    clear hK K hHeld
    have hHeld := hHeld1; clear hHeld1
    try simp only [List.getElem_toArray, List.getElem_cons_succ, List.getElem_cons_zero, Act.put, List.setIfInBounds_toArray, List.set_cons_zero, List.set_cons_succ]
    refine wpAnyH_ready (rs := [0, 2]) (by kernel_rfl) (by simp) (AllReadyH.cons rfl (fun K hK => ?_) (AllReadyH.cons rfl (fun K hK => ?_) AllReadyH.nil))
    · simp only [List.getElem_toArray, List.getElem_cons_succ, List.getElem_cons_zero]
      refine wp_buildEmpty rfl hi ?_
      obtain ⟨WA2, hWn⟩ : ∃ v, v = WA1.alloc (.cells #[] 25) := ⟨_, rfl⟩
      rw [← hWn]
      have B2 := Lib.hid (show Below wd.heap.size wd WA2 by rw [hWn]; exact B1.out.alloc B1.out.size _)
      have O2 := Lib.hid (show WA2.ownsRow wd.heap.size 25 5 (.slice (some ⟨WA1.heap.size, 0, none⟩) 0 0) 0 [] by rw [hWn]; exact own_empty _ _ B1.out.size)
      have RB2 := Lib.hid (show Rw WA2 wd.heap.size #[.int .i64 xk, .string xn, .string xo, .slice xa x1 xc, .slice xb x2 xd] by rw [hWn]; exact RB1.out.alloc _)
      have NE2 := Lib.hid (show ¬ wd.heap.size = WA1.heap.size by have := RB1.out.lt; omega)
      clear hWn
      refine hK.out _ _ (HS.out _ B2.out) (fun hHeld1 => ?_)
      clear hK K hHeld
      have hHeld := hHeld1; clear hHeld1
      try simp only [List.getElem_toArray, List.getElem_cons_succ, List.getElem_cons_zero, Act.put, List.setIfInBounds_toArray, List.set_cons_zero, List.set_cons_succ]
      refine wpAnyH_ready (rs := [2]) (by kernel_rfl) (by simp) (AllReadyH.cons rfl (fun K hK => ?_) AllReadyH.nil)
      simp only [List.getElem_toArray, List.getElem_cons_succ, List.getElem_cons_zero]
      obtain ⟨j0, j1, j2, j3, j4⟩ := (R0.out.later B2.out).box
      go_simp
      clear j0 j1 j2 j3 j4
      have B3 := B2
      have O3 := O2
      have RB3 := RB2
      have NE3 := NE2
      refine hK.out _ _ (HS.out _ B3.out) (fun hHeld1 => ?_)
      clear hK K hHeld
      have hHeld := hHeld1; clear hHeld1
      try simp only [List.getElem_toArray, List.getElem_cons_succ, List.getElem_cons_zero, Act.put, List.setIfInBounds_toArray, List.set_cons_zero, List.set_cons_succ]
      refine wpAnyH_ready (rs := [3]) (by kernel_rfl) (by simp) (AllReadyH.cons rfl (fun K hK => ?_) AllReadyH.nil)
      simp only [List.getElem_toArray, List.getElem_cons_succ, List.getElem_cons_zero]
      refine wp_append_lies WA2 (.tmp 19) (.tmp 21) 23 rfl wd.heap.size 25 i0 (.agg #[.int .i64 0, .string ⟨#[]⟩, .string ⟨#[]⟩, .slice none 0 0, .slice none 0 0]) 5 88 Tryz.underlying23 hi hz0 hz1 hz2 rfl (by decide) (.slice (some ⟨WA1.heap.size, 0, none⟩) 0 0) 0 [] rfl O3.out ⟨gF, oF, none⟩ n d xsF rfl HXF.out.1 (fun j u hu => lies_later B3.out HGF.out HLF.out j u hu) HXF.out.2.1 hn0 (by unfold maxLen; omega) (by omega) B3.out.size WA2.heap.size rfl ?_
      intro gPA4 capA4 WA4 hown hgrow hat hglt
      have B4 := Lib.hid (show Below wd.heap.size wd WA4 from own_below B3.out O3.out hgrow)
      try simp only [Nat.zero_add, List.nil_append] at hown
      have O4 := Lib.hid hown
      try simp only [Nat.zero_add]
      have RB4 := Lib.hid (show Rw WA4 wd.heap.size #[.int .i64 xk, .string xn, .string xo, .slice xa x1 xc, .slice xb x2 xd] from RB3.out.same (hgrow.block wd.heap.size RB3.out.lt (by intro e; simp [Value.ownBlock] at e; exact NE3.out e)))
      have NE4 := Lib.hid (show ¬ wd.heap.size = gPA4 by have h1 := RB3.out.lt; have h2 := NE3.out; rcases hat with h | h; (simp [Value.ownBlock] at h; omega); omega)
      clear hown hgrow hat hglt
      refine hK.out _ _ (HS.out _ B4.out) (fun hHeld1 => ?_)
      clear hK K hHeld
      have hHeld := hHeld1; clear hHeld1
      try simp only [List.getElem_toArray, List.getElem_cons_succ, List.getElem_cons_zero, Act.put, List.setIfInBounds_toArray, List.set_cons_zero, List.set_cons_succ]
      refine wpAnyH_ready (rs := [6]) (by kernel_rfl) (by simp) (AllReadyH.cons rfl (fun K hK => ?_) AllReadyH.nil)
      simp only [List.getElem_toArray, List.getElem_cons_succ, List.getElem_cons_zero]
      refine wp_append_lies WA4 (.tmp 22) (.tmp 24) 23 rfl wd.heap.size 25 i0 (.agg #[.int .i64 0, .string ⟨#[]⟩, .string ⟨#[]⟩, .slice none 0 0, .slice none 0 0]) 5 88 Tryz.underlying23 hi hz0 hz1 hz2 rfl (by decide) (.slice (some ⟨gPA4, 0, none⟩) n capA4) n xsF rfl O4.out ⟨wd.heap.size, 0, none⟩ 1 1 [.int .i64 xk, .string xn, .string xo, .slice xa x1 xc, .slice xb x2 xd] rfl rfl (World.news_of_block (show WA4.heap[wd.heap.size]? = some (.cells #[.int .i64 xk, .string xn, .string xo, .slice xa x1 xc, .slice xb x2 xd] 25 (0, 0)) from RB4.out)) (by intro u hu; simp at hu; rcases hu with rfl | rfl | rfl | rfl | rfl <;> rfl) (by decide) (by unfold maxLen; omega) (by omega) B4.out.size WA4.heap.size rfl ?_
      intro gQ capQ WQ hown hgrow hat hglt
      have BQ := Lib.hid (show Below wd.heap.size wd WQ from own_below B4.out O4.out hgrow)
      try simp only [Nat.zero_add, List.nil_append] at hown
      have OQ := Lib.hid hown
      clear hown hgrow hat hglt
      refine hK.out _ _ (HS.out _ BQ.out) (fun hHeld1 => ?_)
      clear hK K hHeld
      have hHeld := hHeld1; clear hHeld1
      try simp only [List.getElem_toArray, List.getElem_cons_succ, List.getElem_cons_zero, Act.put, List.setIfInBounds_toArray, List.set_cons_zero, List.set_cons_succ]
      refine wpAnyH_take (i := 7) (v := ?vZ7) rfl (by kernel_rfl) (by kernel_rfl) (by kernel_rfl) (fun _ _ _ h => h) (Or.inl ⟨by rfl, ?yZ7⟩) hHeld ?rZ7
      case yZ7 => (intro W hSw; simp only [List.getElem_toArray, List.getElem_cons_succ, List.getElem_cons_zero]; go_simp; try (with_reducible rfl))
      simp only [List.getElem_toArray, List.getElem_cons_succ, List.getElem_cons_zero, Act.put, List.setIfInBounds_toArray, List.set_cons_zero, List.set_cons_succ]
      refine wpAnyH_ready (rs := [8]) (by kernel_rfl) (by simp) (AllReadyH.cons rfl (fun K hK => ?_) AllReadyH.nil)
      simp only [List.getElem_toArray, List.getElem_cons_succ, List.getElem_cons_zero]
      have XF := R0.out.later BQ.out
      obtain ⟨j0, j1, j2, j3, j4⟩ := XF.box
      have jl : w.heap.size < WQ.heap.size := XF.lt
      have jf : WQ.frozen? ⟨w.heap.size, 4, none⟩ = false := rw_frozen XF 4
      have jq : ¬ w.heap.size = q1 := by have := HQ1.out; omega
      have jn : ¬ q1 = w.heap.size := fun e => jq e.symm
      go_simp
      refine hK.out _ _ (HS2.out _ _ BQ.out) (fun hHeld1 => ?_)
      clear hK K hHeld
      have hHeld := hHeld1; clear hHeld1
      try simp only [List.getElem_toArray, List.getElem_cons_succ, List.getElem_cons_zero, Act.put, List.setIfInBounds_toArray, List.set_cons_zero, List.set_cons_succ]
      refine wpAnyH_done (by kernel_rfl) ?_ _
      have YF := Lib.hid (show Rw (WQ.setCell ⟨w.heap.size, 4, none⟩ (.slice (some ⟨gQ, 0, none⟩) (n + 1) capQ)) q2 #[.int .i64 0, .string ⟨#[]⟩, .string ⟨#[]⟩, .slice none 0 0, .slice none 0 0] from (Z0.out.later BQ.out).same (Below.heap_setCell _ _ _ _ (by have := HQ1.out; simp only; omega)))
      go_wp2_with (skip; (refine wpList_store_rowTo rfl _ _ _ rfl rfl q2 _ rfl rfl _ #[.int .i64 0, .string ⟨#[]⟩, .string ⟨#[]⟩, .slice none 0 0, .slice none 0 0] (by first | exact YF.out) (by kernel_rfl) rfl (by simp [Value.oneCell']) ?_))
      refine retF Tryz.results43 rfl (YF.out.set _).box rfl ?_
      have HB1 : w.grownBy WQ (some w.heap.size) := gr_of_below (BW3.out.trans (BQ.out.mono BW3.out.size))
      have HB2 : w.grownBy (WQ.setCell ⟨w.heap.size, 4, none⟩ (.slice (some ⟨gQ, 0, none⟩) (n + 1) capQ)) (some w.heap.size) := gr_new HB1 (Nat.le_refl _) (.slice (some ⟨gQ, 0, none⟩) (n + 1) capQ)
      have HB3 : w.grownBy ((WQ.setCell ⟨w.heap.size, 4, none⟩ (.slice (some ⟨gQ, 0, none⟩) (n + 1) capQ)).setRow q2 #[.int .i64 k, .string ⟨#[]⟩, .string ⟨#[]⟩, .slice none 0 0, (.slice (some ⟨gQ, 0, none⟩) (n + 1) capQ)]) (some w.heap.size) := gr_row HB2 (by have := HQ1.out; omega) _
      have HB : Below w.heap.size w ((WQ.setCell ⟨w.heap.size, 4, none⟩ (.slice (some ⟨gQ, 0, none⟩) (n + 1) capQ)).setRow q2 #[.int .i64 k, .string ⟨#[]⟩, .string ⟨#[]⟩, .slice none 0 0, (.slice (some ⟨gQ, 0, none⟩) (n + 1) capQ)]) := gr_below HB3 (Nat.le_refl _) (Nat.le_refl _)
      have HO := own_keep (own_keep OQ.out (V := WQ.setCell ⟨w.heap.size, 4, none⟩ (.slice (some ⟨gQ, 0, none⟩) (n + 1) capQ)) fun g hg => Below.heap_setCell _ _ _ _ (by have := (own_lt'' OQ.out hg).1; have := HQ1.out; simp only; omega)) (V := (WQ.setCell ⟨w.heap.size, 4, none⟩ (.slice (some ⟨gQ, 0, none⟩) (n + 1) capQ)).setRow q2 #[.int .i64 k, .string ⟨#[]⟩, .string ⟨#[]⟩, .slice none 0 0, (.slice (some ⟨gQ, 0, none⟩) (n + 1) capQ)]) fun g hg => setRow_other _ _ _ _ (by have := (own_lt'' OQ.out hg).1; have := HQ1.out; omega)
      exact add_end HK64.out HQ1.out.2.2 HB HSL.out HXF0.out (by have := RowF.one (c := xc) (d := xd) HX.out; rw [HXE.out] at this; exact this) HO (by rw [List.length_append, ← HN.out]; rfl) (by unfold maxLen; omega)
    · simp only [List.getElem_toArray, List.getElem_cons_succ, List.getElem_cons_zero]
      obtain ⟨j0, j1, j2, j3, j4⟩ := (R0.out.later B1.out).box
      go_simp
      clear j0 j1 j2 j3 j4
      have B2 := B1
      have RB2 := RB1
      refine hK.out _ _ (HS.out _ B2.out) (fun hHeld1 => ?_)
      clear hK K hHeld
      have hHeld := hHeld1; clear hHeld1
      try simp only [List.getElem_toArray, List.getElem_cons_succ, List.getElem_cons_zero, Act.put, List.setIfInBounds_toArray, List.set_cons_zero, List.set_cons_succ]
      refine wpAnyH_ready (rs := [0]) (by kernel_rfl) (by simp) (AllReadyH.cons rfl (fun K hK => ?_) AllReadyH.nil)
      simp only [List.getElem_toArray, List.getElem_cons_succ, List.getElem_cons_zero]
      refine wp_buildEmpty rfl hi ?_
      obtain ⟨WA3, hWn⟩ : ∃ v, v = WA1.alloc (.cells #[] 25) := ⟨_, rfl⟩
      rw [← hWn]
      have B3 := Lib.hid (show Below wd.heap.size wd WA3 by rw [hWn]; exact B2.out.alloc B2.out.size _)
      have O3 := Lib.hid (show WA3.ownsRow wd.heap.size 25 5 (.slice (some ⟨WA1.heap.size, 0, none⟩) 0 0) 0 [] by rw [hWn]; exact own_empty _ _ B2.out.size)
      have RB3 := Lib.hid (show Rw WA3 wd.heap.size #[.int .i64 xk, .string xn, .string xo, .slice xa x1 xc, .slice xb x2 xd] by rw [hWn]; exact RB2.out.alloc _)
      have NE3 := Lib.hid (show ¬ wd.heap.size = WA1.heap.size by have := RB2.out.lt; omega)
      clear hWn
      refine hK.out _ _ (HS.out _ B3.out) (fun hHeld1 => ?_)
      clear hK K hHeld
      have hHeld := hHeld1; clear hHeld1
      try simp only [List.getElem_toArray, List.getElem_cons_succ, List.getElem_cons_zero, Act.put, List.setIfInBounds_toArray, List.set_cons_zero, List.set_cons_succ]
      refine wpAnyH_ready (rs := [3]) (by kernel_rfl) (by simp) (AllReadyH.cons rfl (fun K hK => ?_) AllReadyH.nil)
      simp only [List.getElem_toArray, List.getElem_cons_succ, List.getElem_cons_zero]
      refine wp_append_lies WA3 (.tmp 19) (.tmp 21) 23 rfl wd.heap.size 25 i0 (.agg #[.int .i64 0, .string ⟨#[]⟩, .string ⟨#[]⟩, .slice none 0 0, .slice none 0 0]) 5 88 Tryz.underlying23 hi hz0 hz1 hz2 rfl (by decide) (.slice (some ⟨WA1.heap.size, 0, none⟩) 0 0) 0 [] rfl O3.out ⟨gF, oF, none⟩ n d xsF rfl HXF.out.1 (fun j u hu => lies_later B3.out HGF.out HLF.out j u hu) HXF.out.2.1 hn0 (by unfold maxLen; omega) (by omega) B3.out.size WA3.heap.size rfl ?_
      intro gPA4 capA4 WA4 hown hgrow hat hglt
      have B4 := Lib.hid (show Below wd.heap.size wd WA4 from own_below B3.out O3.out hgrow)
      try simp only [Nat.zero_add, List.nil_append] at hown
      have O4 := Lib.hid hown
      try simp only [Nat.zero_add]
      have RB4 := Lib.hid (show Rw WA4 wd.heap.size #[.int .i64 xk, .string xn, .string xo, .slice xa x1 xc, .slice xb x2 xd] from RB3.out.same (hgrow.block wd.heap.size RB3.out.lt (by intro e; simp [Value.ownBlock] at e; exact NE3.out e)))
      have NE4 := Lib.hid (show ¬ wd.heap.size = gPA4 by have h1 := RB3.out.lt; have h2 := NE3.out; rcases hat with h | h; (simp [Value.ownBlock] at h; omega); omega)
      clear hown hgrow hat hglt
      refine hK.out _ _ (HS.out _ B4.out) (fun hHeld1 => ?_)
      clear hK K hHeld
      have hHeld := hHeld1; clear hHeld1
      try simp only [List.getElem_toArray, List.getElem_cons_succ, List.getElem_cons_zero, Act.put, List.setIfInBounds_toArray, List.set_cons_zero, List.set_cons_succ]
      refine wpAnyH_ready (rs := [6]) (by kernel_rfl) (by simp) (AllReadyH.cons rfl (fun K hK => ?_) AllReadyH.nil)
      simp only [List.getElem_toArray, List.getElem_cons_succ, List.getElem_cons_zero]
      refine wp_append_lies WA4 (.tmp 22) (.tmp 24) 23 rfl wd.heap.size 25 i0 (.agg #[.int .i64 0, .string ⟨#[]⟩, .string ⟨#[]⟩, .slice none 0 0, .slice none 0 0]) 5 88 Tryz.underlying23 hi hz0 hz1 hz2 rfl (by decide) (.slice (some ⟨gPA4, 0, none⟩) n capA4) n xsF rfl O4.out ⟨wd.heap.size, 0, none⟩ 1 1 [.int .i64 xk, .string xn, .string xo, .slice xa x1 xc, .slice xb x2 xd] rfl rfl (World.news_of_block (show WA4.heap[wd.heap.size]? = some (.cells #[.int .i64 xk, .string xn, .string xo, .slice xa x1 xc, .slice xb x2 xd] 25 (0, 0)) from RB4.out)) (by intro u hu; simp at hu; rcases hu with rfl | rfl | rfl | rfl | rfl <;> rfl) (by decide) (by unfold maxLen; omega) (by omega) B4.out.size WA4.heap.size rfl ?_
      intro gQ capQ WQ hown hgrow hat hglt
      have BQ := Lib.hid (show Below wd.heap.size wd WQ from own_below B4.out O4.out hgrow)
      try simp only [Nat.zero_add, List.nil_append] at hown
      have OQ := Lib.hid hown
      clear hown hgrow hat hglt
      refine hK.out _ _ (HS.out _ BQ.out) (fun hHeld1 => ?_)
      clear hK K hHeld
      have hHeld := hHeld1; clear hHeld1
      try simp only [List.getElem_toArray, List.getElem_cons_succ, List.getElem_cons_zero, Act.put, List.setIfInBounds_toArray, List.set_cons_zero, List.set_cons_succ]
      refine wpAnyH_take (i := 7) (v := ?vZ8) rfl (by kernel_rfl) (by kernel_rfl) (by kernel_rfl) (fun _ _ _ h => h) (Or.inl ⟨by rfl, ?yZ8⟩) hHeld ?rZ8
      case yZ8 => (intro W hSw; simp only [List.getElem_toArray, List.getElem_cons_succ, List.getElem_cons_zero]; go_simp; try (with_reducible rfl))
      simp only [List.getElem_toArray, List.getElem_cons_succ, List.getElem_cons_zero, Act.put, List.setIfInBounds_toArray, List.set_cons_zero, List.set_cons_succ]
      refine wpAnyH_ready (rs := [8]) (by kernel_rfl) (by simp) (AllReadyH.cons rfl (fun K hK => ?_) AllReadyH.nil)
      simp only [List.getElem_toArray, List.getElem_cons_succ, List.getElem_cons_zero]
      have XF := R0.out.later BQ.out
      obtain ⟨j0, j1, j2, j3, j4⟩ := XF.box
      have jl : w.heap.size < WQ.heap.size := XF.lt
      have jf : WQ.frozen? ⟨w.heap.size, 4, none⟩ = false := rw_frozen XF 4
      have jq : ¬ w.heap.size = q1 := by have := HQ1.out; omega
      have jn : ¬ q1 = w.heap.size := fun e => jq e.symm
      go_simp
      refine hK.out _ _ (HS2.out _ _ BQ.out) (fun hHeld1 => ?_)
      clear hK K hHeld
      have hHeld := hHeld1; clear hHeld1
      try simp only [List.getElem_toArray, List.getElem_cons_succ, List.getElem_cons_zero, Act.put, List.setIfInBounds_toArray, List.set_cons_zero, List.set_cons_succ]
      refine wpAnyH_done (by kernel_rfl) ?_ _
      have YF := Lib.hid (show Rw (WQ.setCell ⟨w.heap.size, 4, none⟩ (.slice (some ⟨gQ, 0, none⟩) (n + 1) capQ)) q2 #[.int .i64 0, .string ⟨#[]⟩, .string ⟨#[]⟩, .slice none 0 0, .slice none 0 0] from (Z0.out.later BQ.out).same (Below.heap_setCell _ _ _ _ (by have := HQ1.out; simp only; omega)))
      go_wp2_with (skip; (refine wpList_store_rowTo rfl _ _ _ rfl rfl q2 _ rfl rfl _ #[.int .i64 0, .string ⟨#[]⟩, .string ⟨#[]⟩, .slice none 0 0, .slice none 0 0] (by first | exact YF.out) (by kernel_rfl) rfl (by simp [Value.oneCell']) ?_))
      refine retF Tryz.results43 rfl (YF.out.set _).box rfl ?_
      have HB1 : w.grownBy WQ (some w.heap.size) := gr_of_below (BW3.out.trans (BQ.out.mono BW3.out.size))
      have HB2 : w.grownBy (WQ.setCell ⟨w.heap.size, 4, none⟩ (.slice (some ⟨gQ, 0, none⟩) (n + 1) capQ)) (some w.heap.size) := gr_new HB1 (Nat.le_refl _) (.slice (some ⟨gQ, 0, none⟩) (n + 1) capQ)
      have HB3 : w.grownBy ((WQ.setCell ⟨w.heap.size, 4, none⟩ (.slice (some ⟨gQ, 0, none⟩) (n + 1) capQ)).setRow q2 #[.int .i64 k, .string ⟨#[]⟩, .string ⟨#[]⟩, .slice none 0 0, (.slice (some ⟨gQ, 0, none⟩) (n + 1) capQ)]) (some w.heap.size) := gr_row HB2 (by have := HQ1.out; omega) _
      have HB : Below w.heap.size w ((WQ.setCell ⟨w.heap.size, 4, none⟩ (.slice (some ⟨gQ, 0, none⟩) (n + 1) capQ)).setRow q2 #[.int .i64 k, .string ⟨#[]⟩, .string ⟨#[]⟩, .slice none 0 0, (.slice (some ⟨gQ, 0, none⟩) (n + 1) capQ)]) := gr_below HB3 (Nat.le_refl _) (Nat.le_refl _)
      have HO := own_keep (own_keep OQ.out (V := WQ.setCell ⟨w.heap.size, 4, none⟩ (.slice (some ⟨gQ, 0, none⟩) (n + 1) capQ)) fun g hg => Below.heap_setCell _ _ _ _ (by have := (own_lt'' OQ.out hg).1; have := HQ1.out; simp only; omega)) (V := (WQ.setCell ⟨w.heap.size, 4, none⟩ (.slice (some ⟨gQ, 0, none⟩) (n + 1) capQ)).setRow q2 #[.int .i64 k, .string ⟨#[]⟩, .string ⟨#[]⟩, .slice none 0 0, (.slice (some ⟨gQ, 0, none⟩) (n + 1) capQ)]) fun g hg => setRow_other _ _ _ _ (by have := (own_lt'' OQ.out hg).1; have := HQ1.out; omega)
      exact add_end HK64.out HQ1.out.2.2 HB HSL.out HXF0.out (by have := RowF.one (c := xc) (d := xd) HX.out; rw [HXE.out] at this; exact this) HO (by rw [List.length_append, ← HN.out]; rfl) (by unfold maxLen; omega)
set_option maxHeartbeats 8000000 in
set_option maxRecDepth 100000 in
theorem padd_more_eq (k : Int) (hk : -9223372036854775808 ≤ k ∧ k ≤ 9223372036854775807) (ps : List Flt) (hp0 : 0 < ps.length) (hpl : ps.length ≤ 2000) (b : Option Addr) (d : Nat) (x : Flt) (hkx : x.kind = k) (hx0 : 0 < x.parts.length) (hxl : x.parts.length ≤ 2000) (xa : Option Addr) (xc : Nat) (xb : Option Addr) (xd : Nat) (S : Nat → Prop) (w : World) (hSL : ∀ g, S g → g < w.heap.size) (hP : PartsAt w S b 0 ps) (hX : FltAt w S x xa xb) :
    Calls Tryz.prog 43 #[.agg #[.int .i64 k, .string ⟨#[]⟩, .string ⟨#[]⟩, .slice none 0 0, .slice b ps.length d], .agg #[.int .i64 x.kind, bs x.name, bs x.op, .slice xa x.vals.length xc, .slice xb x.parts.length xd]] w fun e w' => AddE k (ps ++ x.parts) S w w' e := by
  obtain ⟨i0, hi, hz0, hz1, hz2⟩ := info_cut' infoFlt
  have HK64 := Lib.hid hk
  have HSL := Lib.hid hSL
  obtain ⟨gF, oF, xsF, hb, hSF, hXF, hLF⟩ := parts_lies hP hp0
  subst hb
  have HXF0 := Lib.hid hXF
  obtain ⟨n, hn⟩ : ∃ n, n = ps.length := ⟨_, rfl⟩
  have HN := Lib.hid hn
  have hn0 : 0 < n := by omega
  have hn2 : n ≤ 2000 := by omega
  have HXF := Lib.hid (show xsF.length = n * 5 ∧ (∀ u ∈ xsF, u.oneCell' = true) ∧ True from ⟨by rw [hn]; exact hXF.1, hXF.2.1, trivial⟩)
  have HLF0 := Lib.hid hLF
  have hgF := hSL gF hSF
  rw [← hn]
  obtain ⟨gX, oX, xsX, hbx, hSX, hXX, hLX⟩ := parts_lies hX.parts hx0
  subst hbx
  obtain ⟨x2, hx2⟩ : ∃ n, n = x.parts.length := ⟨_, rfl⟩
  have HX2 := Lib.hid hx2
  have HXX := Lib.hid hXX
  have HLX0 := Lib.hid hLX
  have hgX := hSL gX hSX
  rw [← hx2] at hx0 hxl ⊢
  obtain ⟨xn, exn, _⟩ := bs_bytes x.name
  obtain ⟨xo, exo, _⟩ := bs_bytes x.op
  obtain ⟨xk, hxk⟩ : ∃ z, z = x.kind := ⟨_, rfl⟩
  obtain ⟨x1, hx1⟩ : ∃ z, z = x.vals.length := ⟨_, rfl⟩
  have HX := Lib.hid hX
  rw [exn, exo, ← hxk, ← hx1]
  rw [← hxk] at hkx
  clear hP hXF hLF hn hp0 hpl hSF
  clear hXX hLX hx2 hSX
  subst hkx
  clear hX exn exo hxk hx1 hk
  obtain ⟨q1, hq1⟩ : ∃ q, q = w.heap.size + 1 := ⟨_, rfl⟩
  obtain ⟨q2, hq2⟩ : ∃ q, q = w.heap.size + 1 + 1 := ⟨_, rfl⟩
  obtain ⟨w3, hw3⟩ : ∃ v, v = ((w.alloc (.cells #[.int .i64 xk, .string ⟨#[]⟩, .string ⟨#[]⟩, .slice none 0 0, .slice (some ⟨gF, oF, none⟩) n d] 25)).alloc (.cells #[.int .i64 xk, .string xn, .string xo, .slice xa x1 xc, .slice (some ⟨gX, oX, none⟩) x2 xd] 25)).alloc (.cells #[.int .i64 0, .string ⟨#[]⟩, .string ⟨#[]⟩, .slice none 0 0, .slice none 0 0] 25) := ⟨_, rfl⟩
  have HW3 := Lib.hid hw3
  have HQE := Lib.hid (And.intro hq1 hq2)
  have hsz1 : (w.alloc (.cells #[.int .i64 xk, .string ⟨#[]⟩, .string ⟨#[]⟩, .slice none 0 0, .slice (some ⟨gF, oF, none⟩) n d] 25)).heap.size = q1 := by simp [hq1]
  have hsz2 : ((w.alloc (.cells #[.int .i64 xk, .string ⟨#[]⟩, .string ⟨#[]⟩, .slice none 0 0, .slice (some ⟨gF, oF, none⟩) n d] 25)).alloc (.cells #[.int .i64 xk, .string xn, .string xo, .slice xa x1 xc, .slice (some ⟨gX, oX, none⟩) x2 xd] 25)).heap.size = q2 := by simp [hq2]
  have hsz3 : w3.heap.size = q2 + 1 := by rw [hw3, hq2]; simp
  obtain ⟨wd, hwd⟩ : ∃ v, v = w3.drew := ⟨_, rfl⟩
  have HWD := Lib.hid hwd
  have hszd : wd.heap.size = w3.heap.size := by rw [hwd]; rfl
  have HQ1 := Lib.hid (show q1 = w.heap.size + 1 ∧ (q2 = q1 + 1 ∧ q2 < wd.heap.size) ∧ w.heap.size ≤ wd.heap.size from ⟨hq1, ⟨by omega, by omega⟩, by omega⟩)
  have R0 := Lib.hid (show Rw wd w.heap.size #[.int .i64 xk, .string ⟨#[]⟩, .string ⟨#[]⟩, .slice none 0 0, .slice (some ⟨gF, oF, none⟩) n d] by rw [hwd, hw3]; exact ((Rw.new ..).alloc2 _ _).same rfl)
  have X0 := Lib.hid (show Rw wd q1 #[.int .i64 xk, .string xn, .string xo, .slice xa x1 xc, .slice (some ⟨gX, oX, none⟩) x2 xd] by rw [hwd, hw3, ← hsz1]; exact ((Rw.new ..).alloc _).same rfl)
  have Z0 := Lib.hid (show Rw wd q2 #[.int .i64 0, .string ⟨#[]⟩, .string ⟨#[]⟩, .slice none 0 0, .slice none 0 0] by rw [hwd, hw3, ← hsz2]; exact (Rw.new ..).same rfl)
  have BW3 := Lib.hid (show Below w.heap.size w wd by rw [hwd, hw3]; exact (((Below.refl _ _).alloc (Nat.le_refl _) _).alloc (by simp) _ |>.alloc (by simp; omega) _).drew)
  have HGF := Lib.hid (show gF < wd.heap.size by have := HQ1.out; omega)
  have HLF := Lib.hid (fun j u hu => (lies_later BW3.out hgF HLF0.out j u hu))
  have HGX := Lib.hid (show gX < wd.heap.size by have := HQ1.out; omega)
  have HLX := Lib.hid (fun j u hu => (lies_later BW3.out hgX HLX0.out j u hu))
  have HS := Lib.hid (show ∀ W, Below wd.heap.size wd W → (fun W => W.cell? ⟨q1, 0, none⟩ = some (.int .i64 xk) ∧ W.cell? ⟨q1, 1, none⟩ = some (.string xn) ∧ W.cell? ⟨q1, 2, none⟩ = some (.string xo) ∧ W.cell? ⟨q1, 3, none⟩ = some (.slice xa x1 xc) ∧ W.cell? ⟨q1, 4, none⟩ = some (.slice (some ⟨gX, oX, none⟩) x2 xd)) W from fun W hW => (X0.out.later hW).box)
  have HS2 := Lib.hid (show ∀ W (v : Value), Below wd.heap.size wd W → (fun W => W.cell? ⟨q1, 0, none⟩ = some (.int .i64 xk) ∧ W.cell? ⟨q1, 1, none⟩ = some (.string xn) ∧ W.cell? ⟨q1, 2, none⟩ = some (.string xo) ∧ W.cell? ⟨q1, 3, none⟩ = some (.slice xa x1 xc) ∧ W.cell? ⟨q1, 4, none⟩ = some (.slice (some ⟨gX, oX, none⟩) x2 xd)) (W.setCell ⟨w.heap.size, 4, none⟩ v) from fun W v hW => ((X0.out.later hW).same (Below.heap_setCell _ _ _ _ (by have := HQ1.out; simp only; omega))).box)
  clear hw3 hwd hq1 hq2 hsz1 hsz2 hsz3 hszd
  go_enter Tryz.func43, Tryz.ntmps43
  go_wp2_with fail
  rw [← HW3.out, ← HQE.out.2, ← HQE.out.1]
  refine wp_region_held_drew (S := (fun W => W.cell? ⟨q1, 0, none⟩ = some (.int .i64 xk) ∧ W.cell? ⟨q1, 1, none⟩ = some (.string xn) ∧ W.cell? ⟨q1, 2, none⟩ = some (.string xo) ∧ W.cell? ⟨q1, 3, none⟩ = some (.slice xa x1 xc) ∧ W.cell? ⟨q1, 4, none⟩ = some (.slice (some ⟨gX, oX, none⟩) x2 xd))) (by kernel_rfl) (by rw [← HWD.out]; exact HS.out _ (Below.refl _ _)) (fun hHeld => ?_)
  rw [← HWD.out] at hHeld ⊢
  refine wpAnyH_take (i := 1) (v := ?vA1) rfl (by kernel_rfl) (by kernel_rfl) (by kernel_rfl) (fun _ _ _ h => h) (Or.inl ⟨by rfl, ?yA1⟩) hHeld ?rA1
  case yA1 => (intro W hSw; simp only [List.getElem_toArray, List.getElem_cons_succ, List.getElem_cons_zero]; go_simp; try (with_reducible rfl))
  simp only [List.getElem_toArray, List.getElem_cons_succ, List.getElem_cons_zero, Act.put, List.setIfInBounds_toArray, List.set_cons_zero, List.set_cons_succ]
  refine wpAnyH_take (i := 4) (v := ?vA4) rfl (by kernel_rfl) (by kernel_rfl) (by kernel_rfl) (fun _ _ _ h => h) (Or.inl ⟨by rfl, ?yA4⟩) hHeld ?rA4
  case yA4 => (intro W hSw; simp only [List.getElem_toArray, List.getElem_cons_succ, List.getElem_cons_zero]; go_simp; try (with_reducible rfl))
  simp only [List.getElem_toArray, List.getElem_cons_succ, List.getElem_cons_zero, Act.put, List.setIfInBounds_toArray, List.set_cons_zero, List.set_cons_succ]
  refine wpAnyH_take (i := 5) (v := ?vA5) rfl (by kernel_rfl) (by kernel_rfl) (by kernel_rfl) (fun _ _ _ h => h) (Or.inl ⟨by rfl, ?yA5⟩) hHeld ?rA5
  case yA5 => (intro W hSw; simp only [List.getElem_toArray, List.getElem_cons_succ, List.getElem_cons_zero]; go_simp; try (with_reducible rfl))
  simp only [List.getElem_toArray, List.getElem_cons_succ, List.getElem_cons_zero, Act.put, List.setIfInBounds_toArray, List.set_cons_zero, List.set_cons_succ]
  have B0 := Lib.hid (Below.refl wd.heap.size wd)
  refine wpAnyH_ready (rs := [0, 2]) (by kernel_rfl) (by simp) (AllReadyH.cons rfl (fun K hK => ?_) (AllReadyH.cons rfl (fun K hK => ?_) AllReadyH.nil))
  · simp only [List.getElem_toArray, List.getElem_cons_succ, List.getElem_cons_zero]
    refine wp_buildEmpty rfl hi ?_
    obtain ⟨WA1, hWn⟩ : ∃ v, v = wd.alloc (.cells #[] 25) := ⟨_, rfl⟩
    rw [← hWn]
    have B1 := Lib.hid (show Below wd.heap.size wd WA1 by rw [hWn]; exact B0.out.alloc B0.out.size _)
    have O1 := Lib.hid (show WA1.ownsRow wd.heap.size 25 5 (.slice (some ⟨wd.heap.size, 0, none⟩) 0 0) 0 [] by rw [hWn]; exact own_empty _ _ B0.out.size)
    clear hWn
    refine hK.out _ _ (HS.out _ B1.out) (fun hHeld1 => ?_)
    clear hK K hHeld
    have hHeld := hHeld1; clear hHeld1
    try simp only [List.getElem_toArray, List.getElem_cons_succ, List.getElem_cons_zero, Act.put, List.setIfInBounds_toArray, List.set_cons_zero, List.set_cons_succ]
    refine wpAnyH_ready (rs := [2]) (by kernel_rfl) (by simp) (AllReadyH.cons rfl (fun K hK => ?_) AllReadyH.nil)
    simp only [List.getElem_toArray, List.getElem_cons_succ, List.getElem_cons_zero]
    obtain ⟨j0, j1, j2, j3, j4⟩ := (R0.out.later B1.out).box
    go_simp
    clear j0 j1 j2 j3 j4
    have B2 := B1
    have O2 := O1
    refine hK.out _ _ (HS.out _ B2.out) (fun hHeld1 => ?_)
    clear hK K hHeld
    have hHeld := hHeld1; clear hHeld1
    try simp only [List.getElem_toArray, List.getElem_cons_succ, List.getElem_cons_zero, Act.put, List.setIfInBounds_toArray, List.set_cons_zero, List.set_cons_succ]
    refine wpAnyH_ready (rs := [3]) (by kernel_rfl) (by simp) (AllReadyH.cons rfl (fun K hK => ?_) AllReadyH.nil)
    simp only [List.getElem_toArray, List.getElem_cons_succ, List.getElem_cons_zero]
    refine wp_append_lies WA1 (.tmp 10) (.tmp 12) 23 rfl wd.heap.size 25 i0 (.agg #[.int .i64 0, .string ⟨#[]⟩, .string ⟨#[]⟩, .slice none 0 0, .slice none 0 0]) 5 88 Tryz.underlying23 hi hz0 hz1 hz2 rfl (by decide) (.slice (some ⟨wd.heap.size, 0, none⟩) 0 0) 0 [] rfl O2.out ⟨gF, oF, none⟩ n d xsF rfl HXF.out.1 (fun j u hu => lies_later B2.out HGF.out HLF.out j u hu) HXF.out.2.1 hn0 (by unfold maxLen; omega) (by omega) B2.out.size WA1.heap.size rfl ?_
    intro gPA3 capA3 WA3 hown hgrow hat hglt
    have B3 := Lib.hid (show Below wd.heap.size wd WA3 from own_below B2.out O2.out hgrow)
    try simp only [Nat.zero_add, List.nil_append] at hown
    have O3 := Lib.hid hown
    try simp only [Nat.zero_add]
    clear hown hgrow hat hglt
    refine hK.out _ _ (HS.out _ B3.out) (fun hHeld1 => ?_)
    clear hK K hHeld
    have hHeld := hHeld1; clear hHeld1
    try simp only [List.getElem_toArray, List.getElem_cons_succ, List.getElem_cons_zero, Act.put, List.setIfInBounds_toArray, List.set_cons_zero, List.set_cons_succ]
    refine wpAnyH_ready (rs := [6]) (by kernel_rfl) (by simp) (AllReadyH.cons rfl (fun K hK => ?_) AllReadyH.nil)
    simp only [List.getElem_toArray, List.getElem_cons_succ, List.getElem_cons_zero]
    refine wp_append_lies WA3 (.tmp 13) (.tmp 15) 23 rfl wd.heap.size 25 i0 (.agg #[.int .i64 0, .string ⟨#[]⟩, .string ⟨#[]⟩, .slice none 0 0, .slice none 0 0]) 5 88 Tryz.underlying23 hi hz0 hz1 hz2 rfl (by decide) (.slice (some ⟨gPA3, 0, none⟩) n capA3) n xsF rfl O3.out ⟨gX, oX, none⟩ x2 xd xsX rfl (by rw [HX2.out]; exact HXX.out.1) (fun j u hu => lies_later B3.out HGX.out HLX.out j u hu) HXX.out.2.1 hx0 (by unfold maxLen; omega) (by omega) B3.out.size WA3.heap.size rfl ?_
    intro gQ capQ WQ hown hgrow hat hglt
    have BQ := Lib.hid (show Below wd.heap.size wd WQ from own_below B3.out O3.out hgrow)
    try simp only [Nat.zero_add, List.nil_append] at hown
    have OQ := Lib.hid hown
    clear hown hgrow hat hglt
    refine hK.out _ _ (HS.out _ BQ.out) (fun hHeld1 => ?_)
    clear hK K hHeld
    have hHeld := hHeld1; clear hHeld1
    try simp only [List.getElem_toArray, List.getElem_cons_succ, List.getElem_cons_zero, Act.put, List.setIfInBounds_toArray, List.set_cons_zero, List.set_cons_succ]
    refine wpAnyH_take (i := 7) (v := ?vZ9) rfl (by kernel_rfl) (by kernel_rfl) (by kernel_rfl) (fun _ _ _ h => h) (Or.inl ⟨by rfl, ?yZ9⟩) hHeld ?rZ9
    case yZ9 => (intro W hSw; simp only [List.getElem_toArray, List.getElem_cons_succ, List.getElem_cons_zero]; go_simp; try (with_reducible rfl))
    simp only [List.getElem_toArray, List.getElem_cons_succ, List.getElem_cons_zero, Act.put, List.setIfInBounds_toArray, List.set_cons_zero, List.set_cons_succ]
    refine wpAnyH_ready (rs := [8]) (by kernel_rfl) (by simp) (AllReadyH.cons rfl (fun K hK => ?_) AllReadyH.nil)
    simp only [List.getElem_toArray, List.getElem_cons_succ, List.getElem_cons_zero]
    have XF := R0.out.later BQ.out
    obtain ⟨j0, j1, j2, j3, j4⟩ := XF.box
    have jl : w.heap.size < WQ.heap.size := XF.lt
    have jf : WQ.frozen? ⟨w.heap.size, 4, none⟩ = false := rw_frozen XF 4
    have jq : ¬ w.heap.size = q1 := by have := HQ1.out; omega
    have jn : ¬ q1 = w.heap.size := fun e => jq e.symm
    go_simp
    refine hK.out _ _ (HS2.out _ _ BQ.out) (fun hHeld1 => ?_)
    clear hK K hHeld
    have hHeld := hHeld1; clear hHeld1
    try simp only [List.getElem_toArray, List.getElem_cons_succ, List.getElem_cons_zero, Act.put, List.setIfInBounds_toArray, List.set_cons_zero, List.set_cons_succ]
    refine wpAnyH_done (by kernel_rfl) ?_ _
    have YF := Lib.hid (show Rw (WQ.setCell ⟨w.heap.size, 4, none⟩ (.slice (some ⟨gQ, 0, none⟩) (n + x2) capQ)) q2 #[.int .i64 0, .string ⟨#[]⟩, .string ⟨#[]⟩, .slice none 0 0, .slice none 0 0] from (Z0.out.later BQ.out).same (Below.heap_setCell _ _ _ _ (by have := HQ1.out; simp only; omega)))
    go_wp2_with (skip; (refine wpList_store_rowTo rfl _ _ _ rfl rfl q2 _ rfl rfl _ #[.int .i64 0, .string ⟨#[]⟩, .string ⟨#[]⟩, .slice none 0 0, .slice none 0 0] (by first | exact YF.out) (by kernel_rfl) rfl (by simp [Value.oneCell']) ?_))
    refine retF Tryz.results43 rfl (YF.out.set _).box rfl ?_
    have HB1 : w.grownBy WQ (some w.heap.size) := gr_of_below (BW3.out.trans (BQ.out.mono BW3.out.size))
    have HB2 : w.grownBy (WQ.setCell ⟨w.heap.size, 4, none⟩ (.slice (some ⟨gQ, 0, none⟩) (n + x2) capQ)) (some w.heap.size) := gr_new HB1 (Nat.le_refl _) (.slice (some ⟨gQ, 0, none⟩) (n + x2) capQ)
    have HB3 : w.grownBy ((WQ.setCell ⟨w.heap.size, 4, none⟩ (.slice (some ⟨gQ, 0, none⟩) (n + x2) capQ)).setRow q2 #[.int .i64 xk, .string ⟨#[]⟩, .string ⟨#[]⟩, .slice none 0 0, (.slice (some ⟨gQ, 0, none⟩) (n + x2) capQ)]) (some w.heap.size) := gr_row HB2 (by have := HQ1.out; omega) _
    have HB : Below w.heap.size w ((WQ.setCell ⟨w.heap.size, 4, none⟩ (.slice (some ⟨gQ, 0, none⟩) (n + x2) capQ)).setRow q2 #[.int .i64 xk, .string ⟨#[]⟩, .string ⟨#[]⟩, .slice none 0 0, (.slice (some ⟨gQ, 0, none⟩) (n + x2) capQ)]) := gr_below HB3 (Nat.le_refl _) (Nat.le_refl _)
    have HO := own_keep (own_keep OQ.out (V := WQ.setCell ⟨w.heap.size, 4, none⟩ (.slice (some ⟨gQ, 0, none⟩) (n + x2) capQ)) fun g hg => Below.heap_setCell _ _ _ _ (by have := (own_lt'' OQ.out hg).1; have := HQ1.out; simp only; omega)) (V := (WQ.setCell ⟨w.heap.size, 4, none⟩ (.slice (some ⟨gQ, 0, none⟩) (n + x2) capQ)).setRow q2 #[.int .i64 xk, .string ⟨#[]⟩, .string ⟨#[]⟩, .slice none 0 0, (.slice (some ⟨gQ, 0, none⟩) (n + x2) capQ)]) fun g hg => setRow_other _ _ _ _ (by have := (own_lt'' OQ.out hg).1; have := HQ1.out; omega)
    exact add_end HK64.out HQ1.out.2.2 HB HSL.out HXF0.out HXX.out HO (by rw [List.length_append, ← HN.out, ← HX2.out]) (by unfold maxLen; omega)
  · simp only [List.getElem_toArray, List.getElem_cons_succ, List.getElem_cons_zero]
    obtain ⟨j0, j1, j2, j3, j4⟩ := (R0.out.later B0.out).box
    go_simp
    clear j0 j1 j2 j3 j4
    have B1 := B0
    refine hK.out _ _ (HS.out _ B1.out) (fun hHeld1 => ?_)
    clear hK K hHeld
    have hHeld := hHeld1; clear hHeld1
    try simp only [List.getElem_toArray, List.getElem_cons_succ, List.getElem_cons_zero, Act.put, List.setIfInBounds_toArray, List.set_cons_zero, List.set_cons_succ]
    refine wpAnyH_ready (rs := [0]) (by kernel_rfl) (by simp) (AllReadyH.cons rfl (fun K hK => ?_) AllReadyH.nil)
    simp only [List.getElem_toArray, List.getElem_cons_succ, List.getElem_cons_zero]
    refine wp_buildEmpty rfl hi ?_
    obtain ⟨WA2, hWn⟩ : ∃ v, v = wd.alloc (.cells #[] 25) := ⟨_, rfl⟩
    rw [← hWn]
    have B2 := Lib.hid (show Below wd.heap.size wd WA2 by rw [hWn]; exact B1.out.alloc B1.out.size _)
    have O2 := Lib.hid (show WA2.ownsRow wd.heap.size 25 5 (.slice (some ⟨wd.heap.size, 0, none⟩) 0 0) 0 [] by rw [hWn]; exact own_empty _ _ B1.out.size)
    clear hWn
    refine hK.out _ _ (HS.out _ B2.out) (fun hHeld1 => ?_)
    clear hK K hHeld
    have hHeld := hHeld1; clear hHeld1
    try simp only [List.getElem_toArray, List.getElem_cons_succ, List.getElem_cons_zero, Act.put, List.setIfInBounds_toArray, List.set_cons_zero, List.set_cons_succ]
    refine wpAnyH_ready (rs := [3]) (by kernel_rfl) (by simp) (AllReadyH.cons rfl (fun K hK => ?_) AllReadyH.nil)
    simp only [List.getElem_toArray, List.getElem_cons_succ, List.getElem_cons_zero]
    refine wp_append_lies WA2 (.tmp 10) (.tmp 12) 23 rfl wd.heap.size 25 i0 (.agg #[.int .i64 0, .string ⟨#[]⟩, .string ⟨#[]⟩, .slice none 0 0, .slice none 0 0]) 5 88 Tryz.underlying23 hi hz0 hz1 hz2 rfl (by decide) (.slice (some ⟨wd.heap.size, 0, none⟩) 0 0) 0 [] rfl O2.out ⟨gF, oF, none⟩ n d xsF rfl HXF.out.1 (fun j u hu => lies_later B2.out HGF.out HLF.out j u hu) HXF.out.2.1 hn0 (by unfold maxLen; omega) (by omega) B2.out.size WA2.heap.size rfl ?_
    intro gPA3 capA3 WA3 hown hgrow hat hglt
    have B3 := Lib.hid (show Below wd.heap.size wd WA3 from own_below B2.out O2.out hgrow)
    try simp only [Nat.zero_add, List.nil_append] at hown
    have O3 := Lib.hid hown
    try simp only [Nat.zero_add]
    clear hown hgrow hat hglt
    refine hK.out _ _ (HS.out _ B3.out) (fun hHeld1 => ?_)
    clear hK K hHeld
    have hHeld := hHeld1; clear hHeld1
    try simp only [List.getElem_toArray, List.getElem_cons_succ, List.getElem_cons_zero, Act.put, List.setIfInBounds_toArray, List.set_cons_zero, List.set_cons_succ]
    refine wpAnyH_ready (rs := [6]) (by kernel_rfl) (by simp) (AllReadyH.cons rfl (fun K hK => ?_) AllReadyH.nil)
    simp only [List.getElem_toArray, List.getElem_cons_succ, List.getElem_cons_zero]
    refine wp_append_lies WA3 (.tmp 13) (.tmp 15) 23 rfl wd.heap.size 25 i0 (.agg #[.int .i64 0, .string ⟨#[]⟩, .string ⟨#[]⟩, .slice none 0 0, .slice none 0 0]) 5 88 Tryz.underlying23 hi hz0 hz1 hz2 rfl (by decide) (.slice (some ⟨gPA3, 0, none⟩) n capA3) n xsF rfl O3.out ⟨gX, oX, none⟩ x2 xd xsX rfl (by rw [HX2.out]; exact HXX.out.1) (fun j u hu => lies_later B3.out HGX.out HLX.out j u hu) HXX.out.2.1 hx0 (by unfold maxLen; omega) (by omega) B3.out.size WA3.heap.size rfl ?_
    intro gQ capQ WQ hown hgrow hat hglt
    have BQ := Lib.hid (show Below wd.heap.size wd WQ from own_below B3.out O3.out hgrow)
    try simp only [Nat.zero_add, List.nil_append] at hown
    have OQ := Lib.hid hown
    clear hown hgrow hat hglt
    refine hK.out _ _ (HS.out _ BQ.out) (fun hHeld1 => ?_)
    clear hK K hHeld
    have hHeld := hHeld1; clear hHeld1
    try simp only [List.getElem_toArray, List.getElem_cons_succ, List.getElem_cons_zero, Act.put, List.setIfInBounds_toArray, List.set_cons_zero, List.set_cons_succ]
    refine wpAnyH_take (i := 7) (v := ?vZ10) rfl (by kernel_rfl) (by kernel_rfl) (by kernel_rfl) (fun _ _ _ h => h) (Or.inl ⟨by rfl, ?yZ10⟩) hHeld ?rZ10
    case yZ10 => (intro W hSw; simp only [List.getElem_toArray, List.getElem_cons_succ, List.getElem_cons_zero]; go_simp; try (with_reducible rfl))
    simp only [List.getElem_toArray, List.getElem_cons_succ, List.getElem_cons_zero, Act.put, List.setIfInBounds_toArray, List.set_cons_zero, List.set_cons_succ]
    refine wpAnyH_ready (rs := [8]) (by kernel_rfl) (by simp) (AllReadyH.cons rfl (fun K hK => ?_) AllReadyH.nil)
    simp only [List.getElem_toArray, List.getElem_cons_succ, List.getElem_cons_zero]
    have XF := R0.out.later BQ.out
    obtain ⟨j0, j1, j2, j3, j4⟩ := XF.box
    have jl : w.heap.size < WQ.heap.size := XF.lt
    have jf : WQ.frozen? ⟨w.heap.size, 4, none⟩ = false := rw_frozen XF 4
    have jq : ¬ w.heap.size = q1 := by have := HQ1.out; omega
    have jn : ¬ q1 = w.heap.size := fun e => jq e.symm
    go_simp
    refine hK.out _ _ (HS2.out _ _ BQ.out) (fun hHeld1 => ?_)
    clear hK K hHeld
    have hHeld := hHeld1; clear hHeld1
    try simp only [List.getElem_toArray, List.getElem_cons_succ, List.getElem_cons_zero, Act.put, List.setIfInBounds_toArray, List.set_cons_zero, List.set_cons_succ]
    refine wpAnyH_done (by kernel_rfl) ?_ _
    have YF := Lib.hid (show Rw (WQ.setCell ⟨w.heap.size, 4, none⟩ (.slice (some ⟨gQ, 0, none⟩) (n + x2) capQ)) q2 #[.int .i64 0, .string ⟨#[]⟩, .string ⟨#[]⟩, .slice none 0 0, .slice none 0 0] from (Z0.out.later BQ.out).same (Below.heap_setCell _ _ _ _ (by have := HQ1.out; simp only; omega)))
    go_wp2_with (skip; (refine wpList_store_rowTo rfl _ _ _ rfl rfl q2 _ rfl rfl _ #[.int .i64 0, .string ⟨#[]⟩, .string ⟨#[]⟩, .slice none 0 0, .slice none 0 0] (by first | exact YF.out) (by kernel_rfl) rfl (by simp [Value.oneCell']) ?_))
    refine retF Tryz.results43 rfl (YF.out.set _).box rfl ?_
    have HB1 : w.grownBy WQ (some w.heap.size) := gr_of_below (BW3.out.trans (BQ.out.mono BW3.out.size))
    have HB2 : w.grownBy (WQ.setCell ⟨w.heap.size, 4, none⟩ (.slice (some ⟨gQ, 0, none⟩) (n + x2) capQ)) (some w.heap.size) := gr_new HB1 (Nat.le_refl _) (.slice (some ⟨gQ, 0, none⟩) (n + x2) capQ)
    have HB3 : w.grownBy ((WQ.setCell ⟨w.heap.size, 4, none⟩ (.slice (some ⟨gQ, 0, none⟩) (n + x2) capQ)).setRow q2 #[.int .i64 xk, .string ⟨#[]⟩, .string ⟨#[]⟩, .slice none 0 0, (.slice (some ⟨gQ, 0, none⟩) (n + x2) capQ)]) (some w.heap.size) := gr_row HB2 (by have := HQ1.out; omega) _
    have HB : Below w.heap.size w ((WQ.setCell ⟨w.heap.size, 4, none⟩ (.slice (some ⟨gQ, 0, none⟩) (n + x2) capQ)).setRow q2 #[.int .i64 xk, .string ⟨#[]⟩, .string ⟨#[]⟩, .slice none 0 0, (.slice (some ⟨gQ, 0, none⟩) (n + x2) capQ)]) := gr_below HB3 (Nat.le_refl _) (Nat.le_refl _)
    have HO := own_keep (own_keep OQ.out (V := WQ.setCell ⟨w.heap.size, 4, none⟩ (.slice (some ⟨gQ, 0, none⟩) (n + x2) capQ)) fun g hg => Below.heap_setCell _ _ _ _ (by have := (own_lt'' OQ.out hg).1; have := HQ1.out; simp only; omega)) (V := (WQ.setCell ⟨w.heap.size, 4, none⟩ (.slice (some ⟨gQ, 0, none⟩) (n + x2) capQ)).setRow q2 #[.int .i64 xk, .string ⟨#[]⟩, .string ⟨#[]⟩, .slice none 0 0, (.slice (some ⟨gQ, 0, none⟩) (n + x2) capQ)]) fun g hg => setRow_other _ _ _ _ (by have := (own_lt'' OQ.out hg).1; have := HQ1.out; omega)
    exact add_end HK64.out HQ1.out.2.2 HB HSL.out HXF0.out HXX.out HO (by rw [List.length_append, ← HN.out, ← HX2.out]) (by unfold maxLen; omega)
set_option maxHeartbeats 8000000 in
set_option maxRecDepth 100000 in
theorem padd_one_ne (k : Int) (hk : -9223372036854775808 ≤ k ∧ k ≤ 9223372036854775807) (x : Flt) (hkx : ¬ x.kind = k) (xa : Option Addr) (xc : Nat) (xb : Option Addr) (xd : Nat) (S : Nat → Prop) (w : World) (hSL : ∀ g, S g → g < w.heap.size) (hX : FltAt w S x xa xb) :
    Calls Tryz.prog 43 #[.agg #[.int .i64 k, .string ⟨#[]⟩, .string ⟨#[]⟩, .slice none 0 0, .slice none 0 0], .agg #[.int .i64 x.kind, bs x.name, bs x.op, .slice xa x.vals.length xc, .slice xb x.parts.length xd]] w fun e w' => AddE k ([] ++ [x]) S w w' e := by
  obtain ⟨i0, hi, hz0, hz1, hz2⟩ := info_cut' infoFlt
  have HK64 := Lib.hid hk
  have HSL := Lib.hid hSL
  obtain ⟨x2, hx2⟩ : ∃ n, n = x.parts.length := ⟨_, rfl⟩
  rw [← hx2]
  obtain ⟨xn, exn, _⟩ := bs_bytes x.name
  obtain ⟨xo, exo, _⟩ := bs_bytes x.op
  obtain ⟨xk, hxk⟩ : ∃ z, z = x.kind := ⟨_, rfl⟩
  obtain ⟨x1, hx1⟩ : ∃ z, z = x.vals.length := ⟨_, rfl⟩
  have HX := Lib.hid hX
  have HXE := Lib.hid (show (fltC x xa xc xb xd) = [.int .i64 xk, .string xn, .string xo, .slice xa x1 xc, .slice xb x2 xd] by unfold fltC; rw [exn, exo, hxk, hx1, hx2])
  rw [exn, exo, ← hxk, ← hx1]
  rw [← hxk] at hkx
  clear hx2
  clear hX exn exo hxk hx1 hk
  obtain ⟨q1, hq1⟩ : ∃ q, q = w.heap.size + 1 := ⟨_, rfl⟩
  obtain ⟨q2, hq2⟩ : ∃ q, q = w.heap.size + 1 + 1 := ⟨_, rfl⟩
  obtain ⟨w3, hw3⟩ : ∃ v, v = ((w.alloc (.cells #[.int .i64 k, .string ⟨#[]⟩, .string ⟨#[]⟩, .slice none 0 0, .slice none 0 0] 25)).alloc (.cells #[.int .i64 xk, .string xn, .string xo, .slice xa x1 xc, .slice xb x2 xd] 25)).alloc (.cells #[.int .i64 0, .string ⟨#[]⟩, .string ⟨#[]⟩, .slice none 0 0, .slice none 0 0] 25) := ⟨_, rfl⟩
  have HW3 := Lib.hid hw3
  have HQE := Lib.hid (And.intro hq1 hq2)
  have hsz1 : (w.alloc (.cells #[.int .i64 k, .string ⟨#[]⟩, .string ⟨#[]⟩, .slice none 0 0, .slice none 0 0] 25)).heap.size = q1 := by simp [hq1]
  have hsz2 : ((w.alloc (.cells #[.int .i64 k, .string ⟨#[]⟩, .string ⟨#[]⟩, .slice none 0 0, .slice none 0 0] 25)).alloc (.cells #[.int .i64 xk, .string xn, .string xo, .slice xa x1 xc, .slice xb x2 xd] 25)).heap.size = q2 := by simp [hq2]
  have hsz3 : w3.heap.size = q2 + 1 := by rw [hw3, hq2]; simp
  obtain ⟨wd, hwd⟩ : ∃ v, v = w3.drew := ⟨_, rfl⟩
  have HWD := Lib.hid hwd
  have hszd : wd.heap.size = w3.heap.size := by rw [hwd]; rfl
  have HQ1 := Lib.hid (show q1 = w.heap.size + 1 ∧ (q2 = q1 + 1 ∧ q2 < wd.heap.size) ∧ w.heap.size ≤ wd.heap.size from ⟨hq1, ⟨by omega, by omega⟩, by omega⟩)
  have R0 := Lib.hid (show Rw wd w.heap.size #[.int .i64 k, .string ⟨#[]⟩, .string ⟨#[]⟩, .slice none 0 0, .slice none 0 0] by rw [hwd, hw3]; exact ((Rw.new ..).alloc2 _ _).same rfl)
  have X0 := Lib.hid (show Rw wd q1 #[.int .i64 xk, .string xn, .string xo, .slice xa x1 xc, .slice xb x2 xd] by rw [hwd, hw3, ← hsz1]; exact ((Rw.new ..).alloc _).same rfl)
  have Z0 := Lib.hid (show Rw wd q2 #[.int .i64 0, .string ⟨#[]⟩, .string ⟨#[]⟩, .slice none 0 0, .slice none 0 0] by rw [hwd, hw3, ← hsz2]; exact (Rw.new ..).same rfl)
  have BW3 := Lib.hid (show Below w.heap.size w wd by rw [hwd, hw3]; exact (((Below.refl _ _).alloc (Nat.le_refl _) _).alloc (by simp) _ |>.alloc (by simp; omega) _).drew)
  have HS := Lib.hid (show ∀ W, Below wd.heap.size wd W → (fun W => W.cell? ⟨q1, 0, none⟩ = some (.int .i64 xk) ∧ W.cell? ⟨q1, 1, none⟩ = some (.string xn) ∧ W.cell? ⟨q1, 2, none⟩ = some (.string xo) ∧ W.cell? ⟨q1, 3, none⟩ = some (.slice xa x1 xc) ∧ W.cell? ⟨q1, 4, none⟩ = some (.slice xb x2 xd)) W from fun W hW => (X0.out.later hW).box)
  have HS2 := Lib.hid (show ∀ W (v : Value), Below wd.heap.size wd W → (fun W => W.cell? ⟨q1, 0, none⟩ = some (.int .i64 xk) ∧ W.cell? ⟨q1, 1, none⟩ = some (.string xn) ∧ W.cell? ⟨q1, 2, none⟩ = some (.string xo) ∧ W.cell? ⟨q1, 3, none⟩ = some (.slice xa x1 xc) ∧ W.cell? ⟨q1, 4, none⟩ = some (.slice xb x2 xd)) (W.setCell ⟨w.heap.size, 4, none⟩ v) from fun W v hW => ((X0.out.later hW).same (Below.heap_setCell _ _ _ _ (by have := HQ1.out; simp only; omega))).box)
  clear hw3 hwd hq1 hq2 hsz1 hsz2 hsz3 hszd
  go_enter Tryz.func43, Tryz.ntmps43
  have hkb : (xk == k) = false := by rw [beq_eq_false_iff_ne]; exact hkx
  have hkd : decide (xk = k) = false := decide_eq_false hkx
  go_wp2_with fail
  rw [← HW3.out, ← HQE.out.2, ← HQE.out.1]
  refine wp_region_held_drew (S := (fun W => W.cell? ⟨q1, 0, none⟩ = some (.int .i64 xk) ∧ W.cell? ⟨q1, 1, none⟩ = some (.string xn) ∧ W.cell? ⟨q1, 2, none⟩ = some (.string xo) ∧ W.cell? ⟨q1, 3, none⟩ = some (.slice xa x1 xc) ∧ W.cell? ⟨q1, 4, none⟩ = some (.slice xb x2 xd))) (by kernel_rfl) (by rw [← HWD.out]; exact HS.out _ (Below.refl _ _)) (fun hHeld => ?_)
  rw [← HWD.out] at hHeld ⊢
  refine wpAnyH_take (i := 1) (v := ?vA1) rfl (by kernel_rfl) (by kernel_rfl) (by kernel_rfl) (fun _ _ _ h => h) (Or.inl ⟨by rfl, ?yA1⟩) hHeld ?rA1
  case yA1 => (intro W hSw; simp only [List.getElem_toArray, List.getElem_cons_succ, List.getElem_cons_zero]; go_simp; try (with_reducible rfl))
  simp only [List.getElem_toArray, List.getElem_cons_succ, List.getElem_cons_zero, Act.put, List.setIfInBounds_toArray, List.set_cons_zero, List.set_cons_succ]
  refine wpAnyH_take (i := 4) (v := ?vA4) rfl (by kernel_rfl) (by kernel_rfl) (by kernel_rfl) (fun _ _ _ h => h) (Or.inl ⟨by rfl, ?yA4⟩) hHeld ?rA4
  case yA4 => (intro W hSw; simp only [List.getElem_toArray, List.getElem_cons_succ, List.getElem_cons_zero]; go_simp; try (with_reducible rfl))
  simp only [List.getElem_toArray, List.getElem_cons_succ, List.getElem_cons_zero, Act.put, List.setIfInBounds_toArray, List.set_cons_zero, List.set_cons_succ]
  have B0 := Lib.hid (Below.refl wd.heap.size wd)
  refine wpAnyH_ready (rs := [0, 2, 5]) (by kernel_rfl) (by simp) (AllReadyH.cons rfl (fun K hK => ?_) (AllReadyH.cons rfl (fun K hK => ?_) (AllReadyH.cons rfl (fun K hK => ?_) AllReadyH.nil)))
  · simp only [List.getElem_toArray, List.getElem_cons_succ, List.getElem_cons_zero]
    refine wp_buildEmpty rfl hi ?_
    obtain ⟨WA1, hWn⟩ : ∃ v, v = wd.alloc (.cells #[] 25) := ⟨_, rfl⟩
    rw [← hWn]
    have B1 := Lib.hid (show Below wd.heap.size wd WA1 by rw [hWn]; exact B0.out.alloc B0.out.size _)
    have O1 := Lib.hid (show WA1.ownsRow wd.heap.size 25 5 (.slice (some ⟨wd.heap.size, 0, none⟩) 0 0) 0 [] by rw [hWn]; exact own_empty _ _ B0.out.size)
    clear hWn
    refine hK.out _ _ (HS.out _ B1.out) (fun hHeld1 => ?_)
    clear hK K hHeld
    have hHeld := hHeld1; clear hHeld1
    try simp only [List.getElem_toArray, List.getElem_cons_succ, List.getElem_cons_zero, Act.put, List.setIfInBounds_toArray, List.set_cons_zero, List.set_cons_succ]
    refine wpAnyH_ready (rs := [2, 5]) (by kernel_rfl) (by simp) (AllReadyH.cons rfl (fun K hK => ?_) (AllReadyH.cons rfl (fun K hK => ?_) AllReadyH.nil))
    · simp only [List.getElem_toArray, List.getElem_cons_succ, List.getElem_cons_zero]
      obtain ⟨j0, j1, j2, j3, j4⟩ := (R0.out.later B1.out).box
      go_simp
      clear j0 j1 j2 j3 j4
      have B2 := B1
      have O2 := O1
      refine hK.out _ _ (HS.out _ B2.out) (fun hHeld1 => ?_)
      clear hK K hHeld
      have hHeld := hHeld1; clear hHeld1
      try simp only [List.getElem_toArray, List.getElem_cons_succ, List.getElem_cons_zero, Act.put, List.setIfInBounds_toArray, List.set_cons_zero, List.set_cons_succ]
      refine wpAnyH_ready (rs := [3, 5]) (by kernel_rfl) (by simp) (AllReadyH.cons rfl (fun K hK => ?_) (AllReadyH.cons rfl (fun K hK => ?_) AllReadyH.nil))
      · simp only [List.getElem_toArray, List.getElem_cons_succ, List.getElem_cons_zero]
        go_simp
        have B3 := B2
        have O3 := O2
        refine hK.out _ _ (HS.out _ B3.out) (fun hHeld1 => ?_)
        clear hK K hHeld
        have hHeld := hHeld1; clear hHeld1
        try simp only [List.getElem_toArray, List.getElem_cons_succ, List.getElem_cons_zero, Act.put, List.setIfInBounds_toArray, List.set_cons_zero, List.set_cons_succ]
        refine wpAnyH_ready (rs := [5]) (by kernel_rfl) (by simp) (AllReadyH.cons rfl (fun K hK => ?_) AllReadyH.nil)
        simp only [List.getElem_toArray, List.getElem_cons_succ, List.getElem_cons_zero]
        go_simp
        obtain ⟨WA4, hWn⟩ : ∃ v, v = WA1.alloc (.cells #[.int .i64 xk, .string xn, .string xo, .slice xa x1 xc, .slice xb x2 xd] 25) := ⟨_, rfl⟩
        rw [← hWn]
        have B4 := Lib.hid (show Below wd.heap.size wd WA4 by rw [hWn]; exact B3.out.alloc B3.out.size _)
        have RB4 := Lib.hid (show Rw WA4 WA1.heap.size #[.int .i64 xk, .string xn, .string xo, .slice xa x1 xc, .slice xb x2 xd] by rw [hWn]; exact Rw.new ..)
        have O4 := Lib.hid (show WA4.ownsRow wd.heap.size 25 5 _ _ _ by rw [hWn]; exact own_keep O3.out fun g hg => Below.heap_alloc _ _ _ (own_lt'' O3.out hg).2)
        have NE4 := Lib.hid (show ¬ WA1.heap.size = wd.heap.size by intro e; have := (own_lt'' (g := wd.heap.size) O3.out rfl).2; omega)
        clear hWn
        refine hK.out _ _ (HS.out _ B4.out) (fun hHeld1 => ?_)
        clear hK K hHeld
        have hHeld := hHeld1; clear hHeld1
        try simp only [List.getElem_toArray, List.getElem_cons_succ, List.getElem_cons_zero, Act.put, List.setIfInBounds_toArray, List.set_cons_zero, List.set_cons_succ]
        refine wpAnyH_ready (rs := [6]) (by kernel_rfl) (by simp) (AllReadyH.cons rfl (fun K hK => ?_) AllReadyH.nil)
        simp only [List.getElem_toArray, List.getElem_cons_succ, List.getElem_cons_zero]
        refine wp_append_lies WA4 (.tmp 22) (.tmp 24) 23 rfl wd.heap.size 25 i0 (.agg #[.int .i64 0, .string ⟨#[]⟩, .string ⟨#[]⟩, .slice none 0 0, .slice none 0 0]) 5 88 Tryz.underlying23 hi hz0 hz1 hz2 rfl (by decide) (.slice (some ⟨wd.heap.size, 0, none⟩) 0 0) 0 [] rfl O4.out ⟨WA1.heap.size, 0, none⟩ 1 1 [.int .i64 xk, .string xn, .string xo, .slice xa x1 xc, .slice xb x2 xd] rfl rfl (World.news_of_block (show WA4.heap[WA1.heap.size]? = some (.cells #[.int .i64 xk, .string xn, .string xo, .slice xa x1 xc, .slice xb x2 xd] 25 (0, 0)) from RB4.out)) (by intro u hu; simp at hu; rcases hu with rfl | rfl | rfl | rfl | rfl <;> rfl) (by decide) (by unfold maxLen; omega) (by omega) B4.out.size WA4.heap.size rfl ?_
        intro gQ capQ WQ hown hgrow hat hglt
        have BQ := Lib.hid (show Below wd.heap.size wd WQ from own_below B4.out O4.out hgrow)
        try simp only [Nat.zero_add, List.nil_append] at hown
        have OQ := Lib.hid hown
        clear hown hgrow hat hglt
        refine hK.out _ _ (HS.out _ BQ.out) (fun hHeld1 => ?_)
        clear hK K hHeld
        have hHeld := hHeld1; clear hHeld1
        try simp only [List.getElem_toArray, List.getElem_cons_succ, List.getElem_cons_zero, Act.put, List.setIfInBounds_toArray, List.set_cons_zero, List.set_cons_succ]
        refine wpAnyH_take (i := 7) (v := ?vZ11) rfl (by kernel_rfl) (by kernel_rfl) (by kernel_rfl) (fun _ _ _ h => h) (Or.inl ⟨by rfl, ?yZ11⟩) hHeld ?rZ11
        case yZ11 => (intro W hSw; simp only [List.getElem_toArray, List.getElem_cons_succ, List.getElem_cons_zero]; go_simp; try (with_reducible rfl))
        simp only [List.getElem_toArray, List.getElem_cons_succ, List.getElem_cons_zero, Act.put, List.setIfInBounds_toArray, List.set_cons_zero, List.set_cons_succ]
        refine wpAnyH_ready (rs := [8]) (by kernel_rfl) (by simp) (AllReadyH.cons rfl (fun K hK => ?_) AllReadyH.nil)
        simp only [List.getElem_toArray, List.getElem_cons_succ, List.getElem_cons_zero]
        have XF := R0.out.later BQ.out
        obtain ⟨j0, j1, j2, j3, j4⟩ := XF.box
        have jl : w.heap.size < WQ.heap.size := XF.lt
        have jf : WQ.frozen? ⟨w.heap.size, 4, none⟩ = false := rw_frozen XF 4
        have jq : ¬ w.heap.size = q1 := by have := HQ1.out; omega
        have jn : ¬ q1 = w.heap.size := fun e => jq e.symm
        go_simp
        refine hK.out _ _ (HS2.out _ _ BQ.out) (fun hHeld1 => ?_)
        clear hK K hHeld
        have hHeld := hHeld1; clear hHeld1
        try simp only [List.getElem_toArray, List.getElem_cons_succ, List.getElem_cons_zero, Act.put, List.setIfInBounds_toArray, List.set_cons_zero, List.set_cons_succ]
        refine wpAnyH_done (by kernel_rfl) ?_ _
        have YF := Lib.hid (show Rw (WQ.setCell ⟨w.heap.size, 4, none⟩ (.slice (some ⟨gQ, 0, none⟩) 1 capQ)) q2 #[.int .i64 0, .string ⟨#[]⟩, .string ⟨#[]⟩, .slice none 0 0, .slice none 0 0] from (Z0.out.later BQ.out).same (Below.heap_setCell _ _ _ _ (by have := HQ1.out; simp only; omega)))
        go_wp2_with (skip; (refine wpList_store_rowTo rfl _ _ _ rfl rfl q2 _ rfl rfl _ #[.int .i64 0, .string ⟨#[]⟩, .string ⟨#[]⟩, .slice none 0 0, .slice none 0 0] (by first | exact YF.out) (by kernel_rfl) rfl (by simp [Value.oneCell']) ?_))
        refine retF Tryz.results43 rfl (YF.out.set _).box rfl ?_
        have HB1 : w.grownBy WQ (some w.heap.size) := gr_of_below (BW3.out.trans (BQ.out.mono BW3.out.size))
        have HB2 : w.grownBy (WQ.setCell ⟨w.heap.size, 4, none⟩ (.slice (some ⟨gQ, 0, none⟩) 1 capQ)) (some w.heap.size) := gr_new HB1 (Nat.le_refl _) (.slice (some ⟨gQ, 0, none⟩) 1 capQ)
        have HB3 : w.grownBy ((WQ.setCell ⟨w.heap.size, 4, none⟩ (.slice (some ⟨gQ, 0, none⟩) 1 capQ)).setRow q2 #[.int .i64 k, .string ⟨#[]⟩, .string ⟨#[]⟩, .slice none 0 0, (.slice (some ⟨gQ, 0, none⟩) 1 capQ)]) (some w.heap.size) := gr_row HB2 (by have := HQ1.out; omega) _
        have HB : Below w.heap.size w ((WQ.setCell ⟨w.heap.size, 4, none⟩ (.slice (some ⟨gQ, 0, none⟩) 1 capQ)).setRow q2 #[.int .i64 k, .string ⟨#[]⟩, .string ⟨#[]⟩, .slice none 0 0, (.slice (some ⟨gQ, 0, none⟩) 1 capQ)]) := gr_below HB3 (Nat.le_refl _) (Nat.le_refl _)
        have HO := own_keep (own_keep OQ.out (V := WQ.setCell ⟨w.heap.size, 4, none⟩ (.slice (some ⟨gQ, 0, none⟩) 1 capQ)) fun g hg => Below.heap_setCell _ _ _ _ (by have := (own_lt'' OQ.out hg).1; have := HQ1.out; simp only; omega)) (V := (WQ.setCell ⟨w.heap.size, 4, none⟩ (.slice (some ⟨gQ, 0, none⟩) 1 capQ)).setRow q2 #[.int .i64 k, .string ⟨#[]⟩, .string ⟨#[]⟩, .slice none 0 0, (.slice (some ⟨gQ, 0, none⟩) 1 capQ)]) fun g hg => setRow_other _ _ _ _ (by have := (own_lt'' OQ.out hg).1; have := HQ1.out; omega)
        exact add_end HK64.out HQ1.out.2.2 HB HSL.out (RowF.nil _ _) (by have := RowF.one (c := xc) (d := xd) HX.out; rw [HXE.out] at this; exact this) HO rfl (by unfold maxLen; omega)
      · simp only [List.getElem_toArray, List.getElem_cons_succ, List.getElem_cons_zero]
        go_simp
        obtain ⟨WA3, hWn⟩ : ∃ v, v = WA1.alloc (.cells #[.int .i64 xk, .string xn, .string xo, .slice xa x1 xc, .slice xb x2 xd] 25) := ⟨_, rfl⟩
        rw [← hWn]
        have B3 := Lib.hid (show Below wd.heap.size wd WA3 by rw [hWn]; exact B2.out.alloc B2.out.size _)
        have RB3 := Lib.hid (show Rw WA3 WA1.heap.size #[.int .i64 xk, .string xn, .string xo, .slice xa x1 xc, .slice xb x2 xd] by rw [hWn]; exact Rw.new ..)
        have O3 := Lib.hid (show WA3.ownsRow wd.heap.size 25 5 _ _ _ by rw [hWn]; exact own_keep O2.out fun g hg => Below.heap_alloc _ _ _ (own_lt'' O2.out hg).2)
        have NE3 := Lib.hid (show ¬ WA1.heap.size = wd.heap.size by intro e; have := (own_lt'' (g := wd.heap.size) O2.out rfl).2; omega)
        clear hWn
        refine hK.out _ _ (HS.out _ B3.out) (fun hHeld1 => ?_)
        clear hK K hHeld
        have hHeld := hHeld1; clear hHeld1
        try simp only [List.getElem_toArray, List.getElem_cons_succ, List.getElem_cons_zero, Act.put, List.setIfInBounds_toArray, List.set_cons_zero, List.set_cons_succ]
        refine wpAnyH_ready (rs := [3]) (by kernel_rfl) (by simp) (AllReadyH.cons rfl (fun K hK => ?_) AllReadyH.nil)
        simp only [List.getElem_toArray, List.getElem_cons_succ, List.getElem_cons_zero]
        go_simp
        have B4 := B3
        have O4 := O3
        have RB4 := RB3
        have NE4 := NE3
        refine hK.out _ _ (HS.out _ B4.out) (fun hHeld1 => ?_)
        clear hK K hHeld
        have hHeld := hHeld1; clear hHeld1
        try simp only [List.getElem_toArray, List.getElem_cons_succ, List.getElem_cons_zero, Act.put, List.setIfInBounds_toArray, List.set_cons_zero, List.set_cons_succ]
        refine wpAnyH_ready (rs := [6]) (by kernel_rfl) (by simp) (AllReadyH.cons rfl (fun K hK => ?_) AllReadyH.nil)
        simp only [List.getElem_toArray, List.getElem_cons_succ, List.getElem_cons_zero]
        refine wp_append_lies WA3 (.tmp 22) (.tmp 24) 23 rfl wd.heap.size 25 i0 (.agg #[.int .i64 0, .string ⟨#[]⟩, .string ⟨#[]⟩, .slice none 0 0, .slice none 0 0]) 5 88 Tryz.underlying23 hi hz0 hz1 hz2 rfl (by decide) (.slice (some ⟨wd.heap.size, 0, none⟩) 0 0) 0 [] rfl O4.out ⟨WA1.heap.size, 0, none⟩ 1 1 [.int .i64 xk, .string xn, .string xo, .slice xa x1 xc, .slice xb x2 xd] rfl rfl (World.news_of_block (show WA3.heap[WA1.heap.size]? = some (.cells #[.int .i64 xk, .string xn, .string xo, .slice xa x1 xc, .slice xb x2 xd] 25 (0, 0)) from RB4.out)) (by intro u hu; simp at hu; rcases hu with rfl | rfl | rfl | rfl | rfl <;> rfl) (by decide) (by unfold maxLen; omega) (by omega) B4.out.size WA3.heap.size rfl ?_
        intro gQ capQ WQ hown hgrow hat hglt
        have BQ := Lib.hid (show Below wd.heap.size wd WQ from own_below B4.out O4.out hgrow)
        try simp only [Nat.zero_add, List.nil_append] at hown
        have OQ := Lib.hid hown
        clear hown hgrow hat hglt
        refine hK.out _ _ (HS.out _ BQ.out) (fun hHeld1 => ?_)
        clear hK K hHeld
        have hHeld := hHeld1; clear hHeld1
        try simp only [List.getElem_toArray, List.getElem_cons_succ, List.getElem_cons_zero, Act.put, List.setIfInBounds_toArray, List.set_cons_zero, List.set_cons_succ]
        refine wpAnyH_take (i := 7) (v := ?vZ12) rfl (by kernel_rfl) (by kernel_rfl) (by kernel_rfl) (fun _ _ _ h => h) (Or.inl ⟨by rfl, ?yZ12⟩) hHeld ?rZ12
        case yZ12 => (intro W hSw; simp only [List.getElem_toArray, List.getElem_cons_succ, List.getElem_cons_zero]; go_simp; try (with_reducible rfl))
        simp only [List.getElem_toArray, List.getElem_cons_succ, List.getElem_cons_zero, Act.put, List.setIfInBounds_toArray, List.set_cons_zero, List.set_cons_succ]
        refine wpAnyH_ready (rs := [8]) (by kernel_rfl) (by simp) (AllReadyH.cons rfl (fun K hK => ?_) AllReadyH.nil)
        simp only [List.getElem_toArray, List.getElem_cons_succ, List.getElem_cons_zero]
        have XF := R0.out.later BQ.out
        obtain ⟨j0, j1, j2, j3, j4⟩ := XF.box
        have jl : w.heap.size < WQ.heap.size := XF.lt
        have jf : WQ.frozen? ⟨w.heap.size, 4, none⟩ = false := rw_frozen XF 4
        have jq : ¬ w.heap.size = q1 := by have := HQ1.out; omega
        have jn : ¬ q1 = w.heap.size := fun e => jq e.symm
        go_simp
        refine hK.out _ _ (HS2.out _ _ BQ.out) (fun hHeld1 => ?_)
        clear hK K hHeld
        have hHeld := hHeld1; clear hHeld1
        try simp only [List.getElem_toArray, List.getElem_cons_succ, List.getElem_cons_zero, Act.put, List.setIfInBounds_toArray, List.set_cons_zero, List.set_cons_succ]
        refine wpAnyH_done (by kernel_rfl) ?_ _
        have YF := Lib.hid (show Rw (WQ.setCell ⟨w.heap.size, 4, none⟩ (.slice (some ⟨gQ, 0, none⟩) 1 capQ)) q2 #[.int .i64 0, .string ⟨#[]⟩, .string ⟨#[]⟩, .slice none 0 0, .slice none 0 0] from (Z0.out.later BQ.out).same (Below.heap_setCell _ _ _ _ (by have := HQ1.out; simp only; omega)))
        go_wp2_with (skip; (refine wpList_store_rowTo rfl _ _ _ rfl rfl q2 _ rfl rfl _ #[.int .i64 0, .string ⟨#[]⟩, .string ⟨#[]⟩, .slice none 0 0, .slice none 0 0] (by first | exact YF.out) (by kernel_rfl) rfl (by simp [Value.oneCell']) ?_))
        refine retF Tryz.results43 rfl (YF.out.set _).box rfl ?_
        have HB1 : w.grownBy WQ (some w.heap.size) := gr_of_below (BW3.out.trans (BQ.out.mono BW3.out.size))
        have HB2 : w.grownBy (WQ.setCell ⟨w.heap.size, 4, none⟩ (.slice (some ⟨gQ, 0, none⟩) 1 capQ)) (some w.heap.size) := gr_new HB1 (Nat.le_refl _) (.slice (some ⟨gQ, 0, none⟩) 1 capQ)
        have HB3 : w.grownBy ((WQ.setCell ⟨w.heap.size, 4, none⟩ (.slice (some ⟨gQ, 0, none⟩) 1 capQ)).setRow q2 #[.int .i64 k, .string ⟨#[]⟩, .string ⟨#[]⟩, .slice none 0 0, (.slice (some ⟨gQ, 0, none⟩) 1 capQ)]) (some w.heap.size) := gr_row HB2 (by have := HQ1.out; omega) _
        have HB : Below w.heap.size w ((WQ.setCell ⟨w.heap.size, 4, none⟩ (.slice (some ⟨gQ, 0, none⟩) 1 capQ)).setRow q2 #[.int .i64 k, .string ⟨#[]⟩, .string ⟨#[]⟩, .slice none 0 0, (.slice (some ⟨gQ, 0, none⟩) 1 capQ)]) := gr_below HB3 (Nat.le_refl _) (Nat.le_refl _)
        have HO := own_keep (own_keep OQ.out (V := WQ.setCell ⟨w.heap.size, 4, none⟩ (.slice (some ⟨gQ, 0, none⟩) 1 capQ)) fun g hg => Below.heap_setCell _ _ _ _ (by have := (own_lt'' OQ.out hg).1; have := HQ1.out; simp only; omega)) (V := (WQ.setCell ⟨w.heap.size, 4, none⟩ (.slice (some ⟨gQ, 0, none⟩) 1 capQ)).setRow q2 #[.int .i64 k, .string ⟨#[]⟩, .string ⟨#[]⟩, .slice none 0 0, (.slice (some ⟨gQ, 0, none⟩) 1 capQ)]) fun g hg => setRow_other _ _ _ _ (by have := (own_lt'' OQ.out hg).1; have := HQ1.out; omega)
        exact add_end HK64.out HQ1.out.2.2 HB HSL.out (RowF.nil _ _) (by have := RowF.one (c := xc) (d := xd) HX.out; rw [HXE.out] at this; exact this) HO rfl (by unfold maxLen; omega)
    · simp only [List.getElem_toArray, List.getElem_cons_succ, List.getElem_cons_zero]
      go_simp
      obtain ⟨WA2, hWn⟩ : ∃ v, v = WA1.alloc (.cells #[.int .i64 xk, .string xn, .string xo, .slice xa x1 xc, .slice xb x2 xd] 25) := ⟨_, rfl⟩
      rw [← hWn]
      have B2 := Lib.hid (show Below wd.heap.size wd WA2 by rw [hWn]; exact B1.out.alloc B1.out.size _)
      have RB2 := Lib.hid (show Rw WA2 WA1.heap.size #[.int .i64 xk, .string xn, .string xo, .slice xa x1 xc, .slice xb x2 xd] by rw [hWn]; exact Rw.new ..)
      have O2 := Lib.hid (show WA2.ownsRow wd.heap.size 25 5 _ _ _ by rw [hWn]; exact own_keep O1.out fun g hg => Below.heap_alloc _ _ _ (own_lt'' O1.out hg).2)
      have NE2 := Lib.hid (show ¬ WA1.heap.size = wd.heap.size by intro e; have := (own_lt'' (g := wd.heap.size) O1.out rfl).2; omega)
      clear hWn
      refine hK.out _ _ (HS.out _ B2.out) (fun hHeld1 => ?_)
      clear hK K hHeld
      have hHeld := hHeld1; clear hHeld1
      try simp only [List.getElem_toArray, List.getElem_cons_succ, List.getElem_cons_zero, Act.put, List.setIfInBounds_toArray, List.set_cons_zero, List.set_cons_succ]
      refine wpAnyH_ready (rs := [2]) (by kernel_rfl) (by simp) (AllReadyH.cons rfl (fun K hK => ?_) AllReadyH.nil)
      simp only [List.getElem_toArray, List.getElem_cons_succ, List.getElem_cons_zero]
      obtain ⟨j0, j1, j2, j3, j4⟩ := (R0.out.later B2.out).box
      go_simp
      clear j0 j1 j2 j3 j4
      have B3 := B2
      have O3 := O2
      have RB3 := RB2
      have NE3 := NE2
      refine hK.out _ _ (HS.out _ B3.out) (fun hHeld1 => ?_)
      clear hK K hHeld
      have hHeld := hHeld1; clear hHeld1
      try simp only [List.getElem_toArray, List.getElem_cons_succ, List.getElem_cons_zero, Act.put, List.setIfInBounds_toArray, List.set_cons_zero, List.set_cons_succ]
      refine wpAnyH_ready (rs := [3]) (by kernel_rfl) (by simp) (AllReadyH.cons rfl (fun K hK => ?_) AllReadyH.nil)
      simp only [List.getElem_toArray, List.getElem_cons_succ, List.getElem_cons_zero]
      go_simp
      have B4 := B3
      have O4 := O3
      have RB4 := RB3
      have NE4 := NE3
      refine hK.out _ _ (HS.out _ B4.out) (fun hHeld1 => ?_)
      clear hK K hHeld
      have hHeld := hHeld1; clear hHeld1
      try simp only [List.getElem_toArray, List.getElem_cons_succ, List.getElem_cons_zero, Act.put, List.setIfInBounds_toArray, List.set_cons_zero, List.set_cons_succ]
      refine wpAnyH_ready (rs := [6]) (by kernel_rfl) (by simp) (AllReadyH.cons rfl (fun K hK => ?_) AllReadyH.nil)
      simp only [List.getElem_toArray, List.getElem_cons_succ, List.getElem_cons_zero]
      refine wp_append_lies WA2 (.tmp 22) (.tmp 24) 23 rfl wd.heap.size 25 i0 (.agg #[.int .i64 0, .string ⟨#[]⟩, .string ⟨#[]⟩, .slice none 0 0, .slice none 0 0]) 5 88 Tryz.underlying23 hi hz0 hz1 hz2 rfl (by decide) (.slice (some ⟨wd.heap.size, 0, none⟩) 0 0) 0 [] rfl O4.out ⟨WA1.heap.size, 0, none⟩ 1 1 [.int .i64 xk, .string xn, .string xo, .slice xa x1 xc, .slice xb x2 xd] rfl rfl (World.news_of_block (show WA2.heap[WA1.heap.size]? = some (.cells #[.int .i64 xk, .string xn, .string xo, .slice xa x1 xc, .slice xb x2 xd] 25 (0, 0)) from RB4.out)) (by intro u hu; simp at hu; rcases hu with rfl | rfl | rfl | rfl | rfl <;> rfl) (by decide) (by unfold maxLen; omega) (by omega) B4.out.size WA2.heap.size rfl ?_
      intro gQ capQ WQ hown hgrow hat hglt
      have BQ := Lib.hid (show Below wd.heap.size wd WQ from own_below B4.out O4.out hgrow)
      try simp only [Nat.zero_add, List.nil_append] at hown
      have OQ := Lib.hid hown
      clear hown hgrow hat hglt
      refine hK.out _ _ (HS.out _ BQ.out) (fun hHeld1 => ?_)
      clear hK K hHeld
      have hHeld := hHeld1; clear hHeld1
      try simp only [List.getElem_toArray, List.getElem_cons_succ, List.getElem_cons_zero, Act.put, List.setIfInBounds_toArray, List.set_cons_zero, List.set_cons_succ]
      refine wpAnyH_take (i := 7) (v := ?vZ13) rfl (by kernel_rfl) (by kernel_rfl) (by kernel_rfl) (fun _ _ _ h => h) (Or.inl ⟨by rfl, ?yZ13⟩) hHeld ?rZ13
      case yZ13 => (intro W hSw; simp only [List.getElem_toArray, List.getElem_cons_succ, List.getElem_cons_zero]; go_simp; try (with_reducible rfl))
      simp only [List.getElem_toArray, List.getElem_cons_succ, List.getElem_cons_zero, Act.put, List.setIfInBounds_toArray, List.set_cons_zero, List.set_cons_succ]
      refine wpAnyH_ready (rs := [8]) (by kernel_rfl) (by simp) (AllReadyH.cons rfl (fun K hK => ?_) AllReadyH.nil)
      simp only [List.getElem_toArray, List.getElem_cons_succ, List.getElem_cons_zero]
      have XF := R0.out.later BQ.out
      obtain ⟨j0, j1, j2, j3, j4⟩ := XF.box
      have jl : w.heap.size < WQ.heap.size := XF.lt
      have jf : WQ.frozen? ⟨w.heap.size, 4, none⟩ = false := rw_frozen XF 4
      have jq : ¬ w.heap.size = q1 := by have := HQ1.out; omega
      have jn : ¬ q1 = w.heap.size := fun e => jq e.symm
      go_simp
      refine hK.out _ _ (HS2.out _ _ BQ.out) (fun hHeld1 => ?_)
      clear hK K hHeld
      have hHeld := hHeld1; clear hHeld1
      try simp only [List.getElem_toArray, List.getElem_cons_succ, List.getElem_cons_zero, Act.put, List.setIfInBounds_toArray, List.set_cons_zero, List.set_cons_succ]
      refine wpAnyH_done (by kernel_rfl) ?_ _
      have YF := Lib.hid (show Rw (WQ.setCell ⟨w.heap.size, 4, none⟩ (.slice (some ⟨gQ, 0, none⟩) 1 capQ)) q2 #[.int .i64 0, .string ⟨#[]⟩, .string ⟨#[]⟩, .slice none 0 0, .slice none 0 0] from (Z0.out.later BQ.out).same (Below.heap_setCell _ _ _ _ (by have := HQ1.out; simp only; omega)))
      go_wp2_with (skip; (refine wpList_store_rowTo rfl _ _ _ rfl rfl q2 _ rfl rfl _ #[.int .i64 0, .string ⟨#[]⟩, .string ⟨#[]⟩, .slice none 0 0, .slice none 0 0] (by first | exact YF.out) (by kernel_rfl) rfl (by simp [Value.oneCell']) ?_))
      refine retF Tryz.results43 rfl (YF.out.set _).box rfl ?_
      have HB1 : w.grownBy WQ (some w.heap.size) := gr_of_below (BW3.out.trans (BQ.out.mono BW3.out.size))
      have HB2 : w.grownBy (WQ.setCell ⟨w.heap.size, 4, none⟩ (.slice (some ⟨gQ, 0, none⟩) 1 capQ)) (some w.heap.size) := gr_new HB1 (Nat.le_refl _) (.slice (some ⟨gQ, 0, none⟩) 1 capQ)
      have HB3 : w.grownBy ((WQ.setCell ⟨w.heap.size, 4, none⟩ (.slice (some ⟨gQ, 0, none⟩) 1 capQ)).setRow q2 #[.int .i64 k, .string ⟨#[]⟩, .string ⟨#[]⟩, .slice none 0 0, (.slice (some ⟨gQ, 0, none⟩) 1 capQ)]) (some w.heap.size) := gr_row HB2 (by have := HQ1.out; omega) _
      have HB : Below w.heap.size w ((WQ.setCell ⟨w.heap.size, 4, none⟩ (.slice (some ⟨gQ, 0, none⟩) 1 capQ)).setRow q2 #[.int .i64 k, .string ⟨#[]⟩, .string ⟨#[]⟩, .slice none 0 0, (.slice (some ⟨gQ, 0, none⟩) 1 capQ)]) := gr_below HB3 (Nat.le_refl _) (Nat.le_refl _)
      have HO := own_keep (own_keep OQ.out (V := WQ.setCell ⟨w.heap.size, 4, none⟩ (.slice (some ⟨gQ, 0, none⟩) 1 capQ)) fun g hg => Below.heap_setCell _ _ _ _ (by have := (own_lt'' OQ.out hg).1; have := HQ1.out; simp only; omega)) (V := (WQ.setCell ⟨w.heap.size, 4, none⟩ (.slice (some ⟨gQ, 0, none⟩) 1 capQ)).setRow q2 #[.int .i64 k, .string ⟨#[]⟩, .string ⟨#[]⟩, .slice none 0 0, (.slice (some ⟨gQ, 0, none⟩) 1 capQ)]) fun g hg => setRow_other _ _ _ _ (by have := (own_lt'' OQ.out hg).1; have := HQ1.out; omega)
      exact add_end HK64.out HQ1.out.2.2 HB HSL.out (RowF.nil _ _) (by have := RowF.one (c := xc) (d := xd) HX.out; rw [HXE.out] at this; exact this) HO rfl (by unfold maxLen; omega)
  · simp only [List.getElem_toArray, List.getElem_cons_succ, List.getElem_cons_zero]
    obtain ⟨j0, j1, j2, j3, j4⟩ := (R0.out.later B0.out).box
    go_simp
    clear j0 j1 j2 j3 j4
    have B1 := B0
    refine hK.out _ _ (HS.out _ B1.out) (fun hHeld1 => ?_)
    clear hK K hHeld
    have hHeld := hHeld1; clear hHeld1
    try simp only [List.getElem_toArray, List.getElem_cons_succ, List.getElem_cons_zero, Act.put, List.setIfInBounds_toArray, List.set_cons_zero, List.set_cons_succ]
    refine wpAnyH_ready (rs := [0, 5]) (by kernel_rfl) (by simp) (AllReadyH.cons rfl (fun K hK => ?_) (AllReadyH.cons rfl (fun K hK => ?_) AllReadyH.nil))
    · simp only [List.getElem_toArray, List.getElem_cons_succ, List.getElem_cons_zero]
      refine wp_buildEmpty rfl hi ?_
      obtain ⟨WA2, hWn⟩ : ∃ v, v = wd.alloc (.cells #[] 25) := ⟨_, rfl⟩
      rw [← hWn]
      have B2 := Lib.hid (show Below wd.heap.size wd WA2 by rw [hWn]; exact B1.out.alloc B1.out.size _)
      have O2 := Lib.hid (show WA2.ownsRow wd.heap.size 25 5 (.slice (some ⟨wd.heap.size, 0, none⟩) 0 0) 0 [] by rw [hWn]; exact own_empty _ _ B1.out.size)
      clear hWn
      refine hK.out _ _ (HS.out _ B2.out) (fun hHeld1 => ?_)
      clear hK K hHeld
      have hHeld := hHeld1; clear hHeld1
      try simp only [List.getElem_toArray, List.getElem_cons_succ, List.getElem_cons_zero, Act.put, List.setIfInBounds_toArray, List.set_cons_zero, List.set_cons_succ]
      refine wpAnyH_ready (rs := [3, 5]) (by kernel_rfl) (by simp) (AllReadyH.cons rfl (fun K hK => ?_) (AllReadyH.cons rfl (fun K hK => ?_) AllReadyH.nil))
      · simp only [List.getElem_toArray, List.getElem_cons_succ, List.getElem_cons_zero]
        go_simp
        have B3 := B2
        have O3 := O2
        refine hK.out _ _ (HS.out _ B3.out) (fun hHeld1 => ?_)
        clear hK K hHeld
        have hHeld := hHeld1; clear hHeld1
        try simp only [List.getElem_toArray, List.getElem_cons_succ, List.getElem_cons_zero, Act.put, List.setIfInBounds_toArray, List.set_cons_zero, List.set_cons_succ]
        refine wpAnyH_ready (rs := [5]) (by kernel_rfl) (by simp) (AllReadyH.cons rfl (fun K hK => ?_) AllReadyH.nil)
        simp only [List.getElem_toArray, List.getElem_cons_succ, List.getElem_cons_zero]
        go_simp
        obtain ⟨WA4, hWn⟩ : ∃ v, v = WA2.alloc (.cells #[.int .i64 xk, .string xn, .string xo, .slice xa x1 xc, .slice xb x2 xd] 25) := ⟨_, rfl⟩
        rw [← hWn]
        have B4 := Lib.hid (show Below wd.heap.size wd WA4 by rw [hWn]; exact B3.out.alloc B3.out.size _)
        have RB4 := Lib.hid (show Rw WA4 WA2.heap.size #[.int .i64 xk, .string xn, .string xo, .slice xa x1 xc, .slice xb x2 xd] by rw [hWn]; exact Rw.new ..)
        have O4 := Lib.hid (show WA4.ownsRow wd.heap.size 25 5 _ _ _ by rw [hWn]; exact own_keep O3.out fun g hg => Below.heap_alloc _ _ _ (own_lt'' O3.out hg).2)
        have NE4 := Lib.hid (show ¬ WA2.heap.size = wd.heap.size by intro e; have := (own_lt'' (g := wd.heap.size) O3.out rfl).2; omega)
        clear hWn
        refine hK.out _ _ (HS.out _ B4.out) (fun hHeld1 => ?_)
        clear hK K hHeld
        have hHeld := hHeld1; clear hHeld1
        try simp only [List.getElem_toArray, List.getElem_cons_succ, List.getElem_cons_zero, Act.put, List.setIfInBounds_toArray, List.set_cons_zero, List.set_cons_succ]
        refine wpAnyH_ready (rs := [6]) (by kernel_rfl) (by simp) (AllReadyH.cons rfl (fun K hK => ?_) AllReadyH.nil)
        simp only [List.getElem_toArray, List.getElem_cons_succ, List.getElem_cons_zero]
        refine wp_append_lies WA4 (.tmp 22) (.tmp 24) 23 rfl wd.heap.size 25 i0 (.agg #[.int .i64 0, .string ⟨#[]⟩, .string ⟨#[]⟩, .slice none 0 0, .slice none 0 0]) 5 88 Tryz.underlying23 hi hz0 hz1 hz2 rfl (by decide) (.slice (some ⟨wd.heap.size, 0, none⟩) 0 0) 0 [] rfl O4.out ⟨WA2.heap.size, 0, none⟩ 1 1 [.int .i64 xk, .string xn, .string xo, .slice xa x1 xc, .slice xb x2 xd] rfl rfl (World.news_of_block (show WA4.heap[WA2.heap.size]? = some (.cells #[.int .i64 xk, .string xn, .string xo, .slice xa x1 xc, .slice xb x2 xd] 25 (0, 0)) from RB4.out)) (by intro u hu; simp at hu; rcases hu with rfl | rfl | rfl | rfl | rfl <;> rfl) (by decide) (by unfold maxLen; omega) (by omega) B4.out.size WA4.heap.size rfl ?_
        intro gQ capQ WQ hown hgrow hat hglt
        have BQ := Lib.hid (show Below wd.heap.size wd WQ from own_below B4.out O4.out hgrow)
        try simp only [Nat.zero_add, List.nil_append] at hown
        have OQ := Lib.hid hown
        clear hown hgrow hat hglt
        refine hK.out _ _ (HS.out _ BQ.out) (fun hHeld1 => ?_)
        clear hK K hHeld
        have hHeld := hHeld1; clear hHeld1
        try simp only [List.getElem_toArray, List.getElem_cons_succ, List.getElem_cons_zero, Act.put, List.setIfInBounds_toArray, List.set_cons_zero, List.set_cons_succ]
        refine wpAnyH_take (i := 7) (v := ?vZ14) rfl (by kernel_rfl) (by kernel_rfl) (by kernel_rfl) (fun _ _ _ h => h) (Or.inl ⟨by rfl, ?yZ14⟩) hHeld ?rZ14
        case yZ14 => (intro W hSw; simp only [List.getElem_toArray, List.getElem_cons_succ, List.getElem_cons_zero]; go_simp; try (with_reducible rfl))
        simp only [List.getElem_toArray, List.getElem_cons_succ, List.getElem_cons_zero, Act.put, List.setIfInBounds_toArray, List.set_cons_zero, List.set_cons_succ]
        refine wpAnyH_ready (rs := [8]) (by kernel_rfl) (by simp) (AllReadyH.cons rfl (fun K hK => ?_) AllReadyH.nil)
        simp only [List.getElem_toArray, List.getElem_cons_succ, List.getElem_cons_zero]
        have XF := R0.out.later BQ.out
        obtain ⟨j0, j1, j2, j3, j4⟩ := XF.box
        have jl : w.heap.size < WQ.heap.size := XF.lt
        have jf : WQ.frozen? ⟨w.heap.size, 4, none⟩ = false := rw_frozen XF 4
        have jq : ¬ w.heap.size = q1 := by have := HQ1.out; omega
        have jn : ¬ q1 = w.heap.size := fun e => jq e.symm
        go_simp
        refine hK.out _ _ (HS2.out _ _ BQ.out) (fun hHeld1 => ?_)
        clear hK K hHeld
        have hHeld := hHeld1; clear hHeld1
        try simp only [List.getElem_toArray, List.getElem_cons_succ, List.getElem_cons_zero, Act.put, List.setIfInBounds_toArray, List.set_cons_zero, List.set_cons_succ]
        refine wpAnyH_done (by kernel_rfl) ?_ _
        have YF := Lib.hid (show Rw (WQ.setCell ⟨w.heap.size, 4, none⟩ (.slice (some ⟨gQ, 0, none⟩) 1 capQ)) q2 #[.int .i64 0, .string ⟨#[]⟩, .string ⟨#[]⟩, .slice none 0 0, .slice none 0 0] from (Z0.out.later BQ.out).same (Below.heap_setCell _ _ _ _ (by have := HQ1.out; simp only; omega)))
        go_wp2_with (skip; (refine wpList_store_rowTo rfl _ _ _ rfl rfl q2 _ rfl rfl _ #[.int .i64 0, .string ⟨#[]⟩, .string ⟨#[]⟩, .slice none 0 0, .slice none 0 0] (by first | exact YF.out) (by kernel_rfl) rfl (by simp [Value.oneCell']) ?_))
        refine retF Tryz.results43 rfl (YF.out.set _).box rfl ?_
        have HB1 : w.grownBy WQ (some w.heap.size) := gr_of_below (BW3.out.trans (BQ.out.mono BW3.out.size))
        have HB2 : w.grownBy (WQ.setCell ⟨w.heap.size, 4, none⟩ (.slice (some ⟨gQ, 0, none⟩) 1 capQ)) (some w.heap.size) := gr_new HB1 (Nat.le_refl _) (.slice (some ⟨gQ, 0, none⟩) 1 capQ)
        have HB3 : w.grownBy ((WQ.setCell ⟨w.heap.size, 4, none⟩ (.slice (some ⟨gQ, 0, none⟩) 1 capQ)).setRow q2 #[.int .i64 k, .string ⟨#[]⟩, .string ⟨#[]⟩, .slice none 0 0, (.slice (some ⟨gQ, 0, none⟩) 1 capQ)]) (some w.heap.size) := gr_row HB2 (by have := HQ1.out; omega) _
        have HB : Below w.heap.size w ((WQ.setCell ⟨w.heap.size, 4, none⟩ (.slice (some ⟨gQ, 0, none⟩) 1 capQ)).setRow q2 #[.int .i64 k, .string ⟨#[]⟩, .string ⟨#[]⟩, .slice none 0 0, (.slice (some ⟨gQ, 0, none⟩) 1 capQ)]) := gr_below HB3 (Nat.le_refl _) (Nat.le_refl _)
        have HO := own_keep (own_keep OQ.out (V := WQ.setCell ⟨w.heap.size, 4, none⟩ (.slice (some ⟨gQ, 0, none⟩) 1 capQ)) fun g hg => Below.heap_setCell _ _ _ _ (by have := (own_lt'' OQ.out hg).1; have := HQ1.out; simp only; omega)) (V := (WQ.setCell ⟨w.heap.size, 4, none⟩ (.slice (some ⟨gQ, 0, none⟩) 1 capQ)).setRow q2 #[.int .i64 k, .string ⟨#[]⟩, .string ⟨#[]⟩, .slice none 0 0, (.slice (some ⟨gQ, 0, none⟩) 1 capQ)]) fun g hg => setRow_other _ _ _ _ (by have := (own_lt'' OQ.out hg).1; have := HQ1.out; omega)
        exact add_end HK64.out HQ1.out.2.2 HB HSL.out (RowF.nil _ _) (by have := RowF.one (c := xc) (d := xd) HX.out; rw [HXE.out] at this; exact this) HO rfl (by unfold maxLen; omega)
      · simp only [List.getElem_toArray, List.getElem_cons_succ, List.getElem_cons_zero]
        go_simp
        obtain ⟨WA3, hWn⟩ : ∃ v, v = WA2.alloc (.cells #[.int .i64 xk, .string xn, .string xo, .slice xa x1 xc, .slice xb x2 xd] 25) := ⟨_, rfl⟩
        rw [← hWn]
        have B3 := Lib.hid (show Below wd.heap.size wd WA3 by rw [hWn]; exact B2.out.alloc B2.out.size _)
        have RB3 := Lib.hid (show Rw WA3 WA2.heap.size #[.int .i64 xk, .string xn, .string xo, .slice xa x1 xc, .slice xb x2 xd] by rw [hWn]; exact Rw.new ..)
        have O3 := Lib.hid (show WA3.ownsRow wd.heap.size 25 5 _ _ _ by rw [hWn]; exact own_keep O2.out fun g hg => Below.heap_alloc _ _ _ (own_lt'' O2.out hg).2)
        have NE3 := Lib.hid (show ¬ WA2.heap.size = wd.heap.size by intro e; have := (own_lt'' (g := wd.heap.size) O2.out rfl).2; omega)
        clear hWn
        refine hK.out _ _ (HS.out _ B3.out) (fun hHeld1 => ?_)
        clear hK K hHeld
        have hHeld := hHeld1; clear hHeld1
        try simp only [List.getElem_toArray, List.getElem_cons_succ, List.getElem_cons_zero, Act.put, List.setIfInBounds_toArray, List.set_cons_zero, List.set_cons_succ]
        refine wpAnyH_ready (rs := [3]) (by kernel_rfl) (by simp) (AllReadyH.cons rfl (fun K hK => ?_) AllReadyH.nil)
        simp only [List.getElem_toArray, List.getElem_cons_succ, List.getElem_cons_zero]
        go_simp
        have B4 := B3
        have O4 := O3
        have RB4 := RB3
        have NE4 := NE3
        refine hK.out _ _ (HS.out _ B4.out) (fun hHeld1 => ?_)
        clear hK K hHeld
        have hHeld := hHeld1; clear hHeld1
        try simp only [List.getElem_toArray, List.getElem_cons_succ, List.getElem_cons_zero, Act.put, List.setIfInBounds_toArray, List.set_cons_zero, List.set_cons_succ]
        refine wpAnyH_ready (rs := [6]) (by kernel_rfl) (by simp) (AllReadyH.cons rfl (fun K hK => ?_) AllReadyH.nil)
        simp only [List.getElem_toArray, List.getElem_cons_succ, List.getElem_cons_zero]
        refine wp_append_lies WA3 (.tmp 22) (.tmp 24) 23 rfl wd.heap.size 25 i0 (.agg #[.int .i64 0, .string ⟨#[]⟩, .string ⟨#[]⟩, .slice none 0 0, .slice none 0 0]) 5 88 Tryz.underlying23 hi hz0 hz1 hz2 rfl (by decide) (.slice (some ⟨wd.heap.size, 0, none⟩) 0 0) 0 [] rfl O4.out ⟨WA2.heap.size, 0, none⟩ 1 1 [.int .i64 xk, .string xn, .string xo, .slice xa x1 xc, .slice xb x2 xd] rfl rfl (World.news_of_block (show WA3.heap[WA2.heap.size]? = some (.cells #[.int .i64 xk, .string xn, .string xo, .slice xa x1 xc, .slice xb x2 xd] 25 (0, 0)) from RB4.out)) (by intro u hu; simp at hu; rcases hu with rfl | rfl | rfl | rfl | rfl <;> rfl) (by decide) (by unfold maxLen; omega) (by omega) B4.out.size WA3.heap.size rfl ?_
        intro gQ capQ WQ hown hgrow hat hglt
        have BQ := Lib.hid (show Below wd.heap.size wd WQ from own_below B4.out O4.out hgrow)
        try simp only [Nat.zero_add, List.nil_append] at hown
        have OQ := Lib.hid hown
        clear hown hgrow hat hglt
        refine hK.out _ _ (HS.out _ BQ.out) (fun hHeld1 => ?_)
        clear hK K hHeld
        have hHeld := hHeld1; clear hHeld1
        try simp only [List.getElem_toArray, List.getElem_cons_succ, List.getElem_cons_zero, Act.put, List.setIfInBounds_toArray, List.set_cons_zero, List.set_cons_succ]
        refine wpAnyH_take (i := 7) (v := ?vZ15) rfl (by kernel_rfl) (by kernel_rfl) (by kernel_rfl) (fun _ _ _ h => h) (Or.inl ⟨by rfl, ?yZ15⟩) hHeld ?rZ15
        case yZ15 => (intro W hSw; simp only [List.getElem_toArray, List.getElem_cons_succ, List.getElem_cons_zero]; go_simp; try (with_reducible rfl))
        simp only [List.getElem_toArray, List.getElem_cons_succ, List.getElem_cons_zero, Act.put, List.setIfInBounds_toArray, List.set_cons_zero, List.set_cons_succ]
        refine wpAnyH_ready (rs := [8]) (by kernel_rfl) (by simp) (AllReadyH.cons rfl (fun K hK => ?_) AllReadyH.nil)
        simp only [List.getElem_toArray, List.getElem_cons_succ, List.getElem_cons_zero]
        have XF := R0.out.later BQ.out
        obtain ⟨j0, j1, j2, j3, j4⟩ := XF.box
        have jl : w.heap.size < WQ.heap.size := XF.lt
        have jf : WQ.frozen? ⟨w.heap.size, 4, none⟩ = false := rw_frozen XF 4
        have jq : ¬ w.heap.size = q1 := by have := HQ1.out; omega
        have jn : ¬ q1 = w.heap.size := fun e => jq e.symm
        go_simp
        refine hK.out _ _ (HS2.out _ _ BQ.out) (fun hHeld1 => ?_)
        clear hK K hHeld
        have hHeld := hHeld1; clear hHeld1
        try simp only [List.getElem_toArray, List.getElem_cons_succ, List.getElem_cons_zero, Act.put, List.setIfInBounds_toArray, List.set_cons_zero, List.set_cons_succ]
        refine wpAnyH_done (by kernel_rfl) ?_ _
        have YF := Lib.hid (show Rw (WQ.setCell ⟨w.heap.size, 4, none⟩ (.slice (some ⟨gQ, 0, none⟩) 1 capQ)) q2 #[.int .i64 0, .string ⟨#[]⟩, .string ⟨#[]⟩, .slice none 0 0, .slice none 0 0] from (Z0.out.later BQ.out).same (Below.heap_setCell _ _ _ _ (by have := HQ1.out; simp only; omega)))
        go_wp2_with (skip; (refine wpList_store_rowTo rfl _ _ _ rfl rfl q2 _ rfl rfl _ #[.int .i64 0, .string ⟨#[]⟩, .string ⟨#[]⟩, .slice none 0 0, .slice none 0 0] (by first | exact YF.out) (by kernel_rfl) rfl (by simp [Value.oneCell']) ?_))
        refine retF Tryz.results43 rfl (YF.out.set _).box rfl ?_
        have HB1 : w.grownBy WQ (some w.heap.size) := gr_of_below (BW3.out.trans (BQ.out.mono BW3.out.size))
        have HB2 : w.grownBy (WQ.setCell ⟨w.heap.size, 4, none⟩ (.slice (some ⟨gQ, 0, none⟩) 1 capQ)) (some w.heap.size) := gr_new HB1 (Nat.le_refl _) (.slice (some ⟨gQ, 0, none⟩) 1 capQ)
        have HB3 : w.grownBy ((WQ.setCell ⟨w.heap.size, 4, none⟩ (.slice (some ⟨gQ, 0, none⟩) 1 capQ)).setRow q2 #[.int .i64 k, .string ⟨#[]⟩, .string ⟨#[]⟩, .slice none 0 0, (.slice (some ⟨gQ, 0, none⟩) 1 capQ)]) (some w.heap.size) := gr_row HB2 (by have := HQ1.out; omega) _
        have HB : Below w.heap.size w ((WQ.setCell ⟨w.heap.size, 4, none⟩ (.slice (some ⟨gQ, 0, none⟩) 1 capQ)).setRow q2 #[.int .i64 k, .string ⟨#[]⟩, .string ⟨#[]⟩, .slice none 0 0, (.slice (some ⟨gQ, 0, none⟩) 1 capQ)]) := gr_below HB3 (Nat.le_refl _) (Nat.le_refl _)
        have HO := own_keep (own_keep OQ.out (V := WQ.setCell ⟨w.heap.size, 4, none⟩ (.slice (some ⟨gQ, 0, none⟩) 1 capQ)) fun g hg => Below.heap_setCell _ _ _ _ (by have := (own_lt'' OQ.out hg).1; have := HQ1.out; simp only; omega)) (V := (WQ.setCell ⟨w.heap.size, 4, none⟩ (.slice (some ⟨gQ, 0, none⟩) 1 capQ)).setRow q2 #[.int .i64 k, .string ⟨#[]⟩, .string ⟨#[]⟩, .slice none 0 0, (.slice (some ⟨gQ, 0, none⟩) 1 capQ)]) fun g hg => setRow_other _ _ _ _ (by have := (own_lt'' OQ.out hg).1; have := HQ1.out; omega)
        exact add_end HK64.out HQ1.out.2.2 HB HSL.out (RowF.nil _ _) (by have := RowF.one (c := xc) (d := xd) HX.out; rw [HXE.out] at this; exact this) HO rfl (by unfold maxLen; omega)
    · simp only [List.getElem_toArray, List.getElem_cons_succ, List.getElem_cons_zero]
      go_simp
      obtain ⟨WA2, hWn⟩ : ∃ v, v = wd.alloc (.cells #[.int .i64 xk, .string xn, .string xo, .slice xa x1 xc, .slice xb x2 xd] 25) := ⟨_, rfl⟩
      rw [← hWn]
      have B2 := Lib.hid (show Below wd.heap.size wd WA2 by rw [hWn]; exact B1.out.alloc B1.out.size _)
      have RB2 := Lib.hid (show Rw WA2 wd.heap.size #[.int .i64 xk, .string xn, .string xo, .slice xa x1 xc, .slice xb x2 xd] by rw [hWn]; exact Rw.new ..)
      clear hWn
      refine hK.out _ _ (HS.out _ B2.out) (fun hHeld1 => ?_)
      clear hK K hHeld
      have hHeld := hHeld1; clear hHeld1
      try simp only [List.getElem_toArray, List.getElem_cons_succ, List.getElem_cons_zero, Act.put, List.setIfInBounds_toArray, List.set_cons_zero, List.set_cons_succ]
      refine wpAnyH_ready (rs := [0]) (by kernel_rfl) (by simp) (AllReadyH.cons rfl (fun K hK => ?_) AllReadyH.nil)
      simp only [List.getElem_toArray, List.getElem_cons_succ, List.getElem_cons_zero]
      refine wp_buildEmpty rfl hi ?_
      obtain ⟨WA3, hWn⟩ : ∃ v, v = WA2.alloc (.cells #[] 25) := ⟨_, rfl⟩
      rw [← hWn]
      have B3 := Lib.hid (show Below wd.heap.size wd WA3 by rw [hWn]; exact B2.out.alloc B2.out.size _)
      have O3 := Lib.hid (show WA3.ownsRow wd.heap.size 25 5 (.slice (some ⟨WA2.heap.size, 0, none⟩) 0 0) 0 [] by rw [hWn]; exact own_empty _ _ B2.out.size)
      have RB3 := Lib.hid (show Rw WA3 wd.heap.size #[.int .i64 xk, .string xn, .string xo, .slice xa x1 xc, .slice xb x2 xd] by rw [hWn]; exact RB2.out.alloc _)
      have NE3 := Lib.hid (show ¬ wd.heap.size = WA2.heap.size by have := RB2.out.lt; omega)
      clear hWn
      refine hK.out _ _ (HS.out _ B3.out) (fun hHeld1 => ?_)
      clear hK K hHeld
      have hHeld := hHeld1; clear hHeld1
      try simp only [List.getElem_toArray, List.getElem_cons_succ, List.getElem_cons_zero, Act.put, List.setIfInBounds_toArray, List.set_cons_zero, List.set_cons_succ]
      refine wpAnyH_ready (rs := [3]) (by kernel_rfl) (by simp) (AllReadyH.cons rfl (fun K hK => ?_) AllReadyH.nil)
      simp only [List.getElem_toArray, List.getElem_cons_succ, List.getElem_cons_zero]
      go_simp
      have B4 := B3
      have O4 := O3
      have RB4 := RB3
      have NE4 := NE3
      refine hK.out _ _ (HS.out _ B4.out) (fun hHeld1 => ?_)
      clear hK K hHeld
      have hHeld := hHeld1; clear hHeld1
      try simp only [List.getElem_toArray, List.getElem_cons_succ, List.getElem_cons_zero, Act.put, List.setIfInBounds_toArray, List.set_cons_zero, List.set_cons_succ]
      refine wpAnyH_ready (rs := [6]) (by kernel_rfl) (by simp) (AllReadyH.cons rfl (fun K hK => ?_) AllReadyH.nil)
      simp only [List.getElem_toArray, List.getElem_cons_succ, List.getElem_cons_zero]
      refine wp_append_lies WA3 (.tmp 22) (.tmp 24) 23 rfl wd.heap.size 25 i0 (.agg #[.int .i64 0, .string ⟨#[]⟩, .string ⟨#[]⟩, .slice none 0 0, .slice none 0 0]) 5 88 Tryz.underlying23 hi hz0 hz1 hz2 rfl (by decide) (.slice (some ⟨WA2.heap.size, 0, none⟩) 0 0) 0 [] rfl O4.out ⟨wd.heap.size, 0, none⟩ 1 1 [.int .i64 xk, .string xn, .string xo, .slice xa x1 xc, .slice xb x2 xd] rfl rfl (World.news_of_block (show WA3.heap[wd.heap.size]? = some (.cells #[.int .i64 xk, .string xn, .string xo, .slice xa x1 xc, .slice xb x2 xd] 25 (0, 0)) from RB4.out)) (by intro u hu; simp at hu; rcases hu with rfl | rfl | rfl | rfl | rfl <;> rfl) (by decide) (by unfold maxLen; omega) (by omega) B4.out.size WA3.heap.size rfl ?_
      intro gQ capQ WQ hown hgrow hat hglt
      have BQ := Lib.hid (show Below wd.heap.size wd WQ from own_below B4.out O4.out hgrow)
      try simp only [Nat.zero_add, List.nil_append] at hown
      have OQ := Lib.hid hown
      clear hown hgrow hat hglt
      refine hK.out _ _ (HS.out _ BQ.out) (fun hHeld1 => ?_)
      clear hK K hHeld
      have hHeld := hHeld1; clear hHeld1
      try simp only [List.getElem_toArray, List.getElem_cons_succ, List.getElem_cons_zero, Act.put, List.setIfInBounds_toArray, List.set_cons_zero, List.set_cons_succ]
      refine wpAnyH_take (i := 7) (v := ?vZ16) rfl (by kernel_rfl) (by kernel_rfl) (by kernel_rfl) (fun _ _ _ h => h) (Or.inl ⟨by rfl, ?yZ16⟩) hHeld ?rZ16
      case yZ16 => (intro W hSw; simp only [List.getElem_toArray, List.getElem_cons_succ, List.getElem_cons_zero]; go_simp; try (with_reducible rfl))
      simp only [List.getElem_toArray, List.getElem_cons_succ, List.getElem_cons_zero, Act.put, List.setIfInBounds_toArray, List.set_cons_zero, List.set_cons_succ]
      refine wpAnyH_ready (rs := [8]) (by kernel_rfl) (by simp) (AllReadyH.cons rfl (fun K hK => ?_) AllReadyH.nil)
      simp only [List.getElem_toArray, List.getElem_cons_succ, List.getElem_cons_zero]
      have XF := R0.out.later BQ.out
      obtain ⟨j0, j1, j2, j3, j4⟩ := XF.box
      have jl : w.heap.size < WQ.heap.size := XF.lt
      have jf : WQ.frozen? ⟨w.heap.size, 4, none⟩ = false := rw_frozen XF 4
      have jq : ¬ w.heap.size = q1 := by have := HQ1.out; omega
      have jn : ¬ q1 = w.heap.size := fun e => jq e.symm
      go_simp
      refine hK.out _ _ (HS2.out _ _ BQ.out) (fun hHeld1 => ?_)
      clear hK K hHeld
      have hHeld := hHeld1; clear hHeld1
      try simp only [List.getElem_toArray, List.getElem_cons_succ, List.getElem_cons_zero, Act.put, List.setIfInBounds_toArray, List.set_cons_zero, List.set_cons_succ]
      refine wpAnyH_done (by kernel_rfl) ?_ _
      have YF := Lib.hid (show Rw (WQ.setCell ⟨w.heap.size, 4, none⟩ (.slice (some ⟨gQ, 0, none⟩) 1 capQ)) q2 #[.int .i64 0, .string ⟨#[]⟩, .string ⟨#[]⟩, .slice none 0 0, .slice none 0 0] from (Z0.out.later BQ.out).same (Below.heap_setCell _ _ _ _ (by have := HQ1.out; simp only; omega)))
      go_wp2_with (skip; (refine wpList_store_rowTo rfl _ _ _ rfl rfl q2 _ rfl rfl _ #[.int .i64 0, .string ⟨#[]⟩, .string ⟨#[]⟩, .slice none 0 0, .slice none 0 0] (by first | exact YF.out) (by kernel_rfl) rfl (by simp [Value.oneCell']) ?_))
      refine retF Tryz.results43 rfl (YF.out.set _).box rfl ?_
      have HB1 : w.grownBy WQ (some w.heap.size) := gr_of_below (BW3.out.trans (BQ.out.mono BW3.out.size))
      have HB2 : w.grownBy (WQ.setCell ⟨w.heap.size, 4, none⟩ (.slice (some ⟨gQ, 0, none⟩) 1 capQ)) (some w.heap.size) := gr_new HB1 (Nat.le_refl _) (.slice (some ⟨gQ, 0, none⟩) 1 capQ)
      have HB3 : w.grownBy ((WQ.setCell ⟨w.heap.size, 4, none⟩ (.slice (some ⟨gQ, 0, none⟩) 1 capQ)).setRow q2 #[.int .i64 k, .string ⟨#[]⟩, .string ⟨#[]⟩, .slice none 0 0, (.slice (some ⟨gQ, 0, none⟩) 1 capQ)]) (some w.heap.size) := gr_row HB2 (by have := HQ1.out; omega) _
      have HB : Below w.heap.size w ((WQ.setCell ⟨w.heap.size, 4, none⟩ (.slice (some ⟨gQ, 0, none⟩) 1 capQ)).setRow q2 #[.int .i64 k, .string ⟨#[]⟩, .string ⟨#[]⟩, .slice none 0 0, (.slice (some ⟨gQ, 0, none⟩) 1 capQ)]) := gr_below HB3 (Nat.le_refl _) (Nat.le_refl _)
      have HO := own_keep (own_keep OQ.out (V := WQ.setCell ⟨w.heap.size, 4, none⟩ (.slice (some ⟨gQ, 0, none⟩) 1 capQ)) fun g hg => Below.heap_setCell _ _ _ _ (by have := (own_lt'' OQ.out hg).1; have := HQ1.out; simp only; omega)) (V := (WQ.setCell ⟨w.heap.size, 4, none⟩ (.slice (some ⟨gQ, 0, none⟩) 1 capQ)).setRow q2 #[.int .i64 k, .string ⟨#[]⟩, .string ⟨#[]⟩, .slice none 0 0, (.slice (some ⟨gQ, 0, none⟩) 1 capQ)]) fun g hg => setRow_other _ _ _ _ (by have := (own_lt'' OQ.out hg).1; have := HQ1.out; omega)
      exact add_end HK64.out HQ1.out.2.2 HB HSL.out (RowF.nil _ _) (by have := RowF.one (c := xc) (d := xd) HX.out; rw [HXE.out] at this; exact this) HO rfl (by unfold maxLen; omega)
  · simp only [List.getElem_toArray, List.getElem_cons_succ, List.getElem_cons_zero]
    go_simp
    obtain ⟨WA1, hWn⟩ : ∃ v, v = wd.alloc (.cells #[.int .i64 xk, .string xn, .string xo, .slice xa x1 xc, .slice xb x2 xd] 25) := ⟨_, rfl⟩
    rw [← hWn]
    have B1 := Lib.hid (show Below wd.heap.size wd WA1 by rw [hWn]; exact B0.out.alloc B0.out.size _)
    have RB1 := Lib.hid (show Rw WA1 wd.heap.size #[.int .i64 xk, .string xn, .string xo, .slice xa x1 xc, .slice xb x2 xd] by rw [hWn]; exact Rw.new ..)
    clear hWn
    refine hK.out _ _ (HS.out _ B1.out) (fun hHeld1 => ?_)
    clear hK K hHeld
    have hHeld := hHeld1; clear hHeld1
    try simp only [List.getElem_toArray, List.getElem_cons_succ, List.getElem_cons_zero, Act.put, List.setIfInBounds_toArray, List.set_cons_zero, List.set_cons_succ]
    refine wpAnyH_ready (rs := [0, 2]) (by kernel_rfl) (by simp) (AllReadyH.cons rfl (fun K hK => ?_) (AllReadyH.cons rfl (fun K hK => ?_) AllReadyH.nil))
    · simp only [List.getElem_toArray, List.getElem_cons_succ, List.getElem_cons_zero]
      refine wp_buildEmpty rfl hi ?_
      obtain ⟨WA2, hWn⟩ : ∃ v, v = WA1.alloc (.cells #[] 25) := ⟨_, rfl⟩
      rw [← hWn]
      have B2 := Lib.hid (show Below wd.heap.size wd WA2 by rw [hWn]; exact B1.out.alloc B1.out.size _)
      have O2 := Lib.hid (show WA2.ownsRow wd.heap.size 25 5 (.slice (some ⟨WA1.heap.size, 0, none⟩) 0 0) 0 [] by rw [hWn]; exact own_empty _ _ B1.out.size)
      have RB2 := Lib.hid (show Rw WA2 wd.heap.size #[.int .i64 xk, .string xn, .string xo, .slice xa x1 xc, .slice xb x2 xd] by rw [hWn]; exact RB1.out.alloc _)
      have NE2 := Lib.hid (show ¬ wd.heap.size = WA1.heap.size by have := RB1.out.lt; omega)
      clear hWn
      refine hK.out _ _ (HS.out _ B2.out) (fun hHeld1 => ?_)
      clear hK K hHeld
      have hHeld := hHeld1; clear hHeld1
      try simp only [List.getElem_toArray, List.getElem_cons_succ, List.getElem_cons_zero, Act.put, List.setIfInBounds_toArray, List.set_cons_zero, List.set_cons_succ]
      refine wpAnyH_ready (rs := [2]) (by kernel_rfl) (by simp) (AllReadyH.cons rfl (fun K hK => ?_) AllReadyH.nil)
      simp only [List.getElem_toArray, List.getElem_cons_succ, List.getElem_cons_zero]
      obtain ⟨j0, j1, j2, j3, j4⟩ := (R0.out.later B2.out).box
      go_simp
      clear j0 j1 j2 j3 j4
      have B3 := B2
      have O3 := O2
      have RB3 := RB2
      have NE3 := NE2
      refine hK.out _ _ (HS.out _ B3.out) (fun hHeld1 => ?_)
      clear hK K hHeld
      have hHeld := hHeld1; clear hHeld1
      try simp only [List.getElem_toArray, List.getElem_cons_succ, List.getElem_cons_zero, Act.put, List.setIfInBounds_toArray, List.set_cons_zero, List.set_cons_succ]
      refine wpAnyH_ready (rs := [3]) (by kernel_rfl) (by simp) (AllReadyH.cons rfl (fun K hK => ?_) AllReadyH.nil)
      simp only [List.getElem_toArray, List.getElem_cons_succ, List.getElem_cons_zero]
      go_simp
      have B4 := B3
      have O4 := O3
      have RB4 := RB3
      have NE4 := NE3
      refine hK.out _ _ (HS.out _ B4.out) (fun hHeld1 => ?_)
      clear hK K hHeld
      have hHeld := hHeld1; clear hHeld1
      try simp only [List.getElem_toArray, List.getElem_cons_succ, List.getElem_cons_zero, Act.put, List.setIfInBounds_toArray, List.set_cons_zero, List.set_cons_succ]
      refine wpAnyH_ready (rs := [6]) (by kernel_rfl) (by simp) (AllReadyH.cons rfl (fun K hK => ?_) AllReadyH.nil)
      simp only [List.getElem_toArray, List.getElem_cons_succ, List.getElem_cons_zero]
      refine wp_append_lies WA2 (.tmp 22) (.tmp 24) 23 rfl wd.heap.size 25 i0 (.agg #[.int .i64 0, .string ⟨#[]⟩, .string ⟨#[]⟩, .slice none 0 0, .slice none 0 0]) 5 88 Tryz.underlying23 hi hz0 hz1 hz2 rfl (by decide) (.slice (some ⟨WA1.heap.size, 0, none⟩) 0 0) 0 [] rfl O4.out ⟨wd.heap.size, 0, none⟩ 1 1 [.int .i64 xk, .string xn, .string xo, .slice xa x1 xc, .slice xb x2 xd] rfl rfl (World.news_of_block (show WA2.heap[wd.heap.size]? = some (.cells #[.int .i64 xk, .string xn, .string xo, .slice xa x1 xc, .slice xb x2 xd] 25 (0, 0)) from RB4.out)) (by intro u hu; simp at hu; rcases hu with rfl | rfl | rfl | rfl | rfl <;> rfl) (by decide) (by unfold maxLen; omega) (by omega) B4.out.size WA2.heap.size rfl ?_
      intro gQ capQ WQ hown hgrow hat hglt
      have BQ := Lib.hid (show Below wd.heap.size wd WQ from own_below B4.out O4.out hgrow)
      try simp only [Nat.zero_add, List.nil_append] at hown
      have OQ := Lib.hid hown
      clear hown hgrow hat hglt
      refine hK.out _ _ (HS.out _ BQ.out) (fun hHeld1 => ?_)
      clear hK K hHeld
      have hHeld := hHeld1; clear hHeld1
      try simp only [List.getElem_toArray, List.getElem_cons_succ, List.getElem_cons_zero, Act.put, List.setIfInBounds_toArray, List.set_cons_zero, List.set_cons_succ]
      refine wpAnyH_take (i := 7) (v := ?vZ17) rfl (by kernel_rfl) (by kernel_rfl) (by kernel_rfl) (fun _ _ _ h => h) (Or.inl ⟨by rfl, ?yZ17⟩) hHeld ?rZ17
      case yZ17 => (intro W hSw; simp only [List.getElem_toArray, List.getElem_cons_succ, List.getElem_cons_zero]; go_simp; try (with_reducible rfl))
      simp only [List.getElem_toArray, List.getElem_cons_succ, List.getElem_cons_zero, Act.put, List.setIfInBounds_toArray, List.set_cons_zero, List.set_cons_succ]
      refine wpAnyH_ready (rs := [8]) (by kernel_rfl) (by simp) (AllReadyH.cons rfl (fun K hK => ?_) AllReadyH.nil)
      simp only [List.getElem_toArray, List.getElem_cons_succ, List.getElem_cons_zero]
      have XF := R0.out.later BQ.out
      obtain ⟨j0, j1, j2, j3, j4⟩ := XF.box
      have jl : w.heap.size < WQ.heap.size := XF.lt
      have jf : WQ.frozen? ⟨w.heap.size, 4, none⟩ = false := rw_frozen XF 4
      have jq : ¬ w.heap.size = q1 := by have := HQ1.out; omega
      have jn : ¬ q1 = w.heap.size := fun e => jq e.symm
      go_simp
      refine hK.out _ _ (HS2.out _ _ BQ.out) (fun hHeld1 => ?_)
      clear hK K hHeld
      have hHeld := hHeld1; clear hHeld1
      try simp only [List.getElem_toArray, List.getElem_cons_succ, List.getElem_cons_zero, Act.put, List.setIfInBounds_toArray, List.set_cons_zero, List.set_cons_succ]
      refine wpAnyH_done (by kernel_rfl) ?_ _
      have YF := Lib.hid (show Rw (WQ.setCell ⟨w.heap.size, 4, none⟩ (.slice (some ⟨gQ, 0, none⟩) 1 capQ)) q2 #[.int .i64 0, .string ⟨#[]⟩, .string ⟨#[]⟩, .slice none 0 0, .slice none 0 0] from (Z0.out.later BQ.out).same (Below.heap_setCell _ _ _ _ (by have := HQ1.out; simp only; omega)))
      go_wp2_with (skip; (refine wpList_store_rowTo rfl _ _ _ rfl rfl q2 _ rfl rfl _ #[.int .i64 0, .string ⟨#[]⟩, .string ⟨#[]⟩, .slice none 0 0, .slice none 0 0] (by first | exact YF.out) (by kernel_rfl) rfl (by simp [Value.oneCell']) ?_))
      refine retF Tryz.results43 rfl (YF.out.set _).box rfl ?_
      have HB1 : w.grownBy WQ (some w.heap.size) := gr_of_below (BW3.out.trans (BQ.out.mono BW3.out.size))
      have HB2 : w.grownBy (WQ.setCell ⟨w.heap.size, 4, none⟩ (.slice (some ⟨gQ, 0, none⟩) 1 capQ)) (some w.heap.size) := gr_new HB1 (Nat.le_refl _) (.slice (some ⟨gQ, 0, none⟩) 1 capQ)
      have HB3 : w.grownBy ((WQ.setCell ⟨w.heap.size, 4, none⟩ (.slice (some ⟨gQ, 0, none⟩) 1 capQ)).setRow q2 #[.int .i64 k, .string ⟨#[]⟩, .string ⟨#[]⟩, .slice none 0 0, (.slice (some ⟨gQ, 0, none⟩) 1 capQ)]) (some w.heap.size) := gr_row HB2 (by have := HQ1.out; omega) _
      have HB : Below w.heap.size w ((WQ.setCell ⟨w.heap.size, 4, none⟩ (.slice (some ⟨gQ, 0, none⟩) 1 capQ)).setRow q2 #[.int .i64 k, .string ⟨#[]⟩, .string ⟨#[]⟩, .slice none 0 0, (.slice (some ⟨gQ, 0, none⟩) 1 capQ)]) := gr_below HB3 (Nat.le_refl _) (Nat.le_refl _)
      have HO := own_keep (own_keep OQ.out (V := WQ.setCell ⟨w.heap.size, 4, none⟩ (.slice (some ⟨gQ, 0, none⟩) 1 capQ)) fun g hg => Below.heap_setCell _ _ _ _ (by have := (own_lt'' OQ.out hg).1; have := HQ1.out; simp only; omega)) (V := (WQ.setCell ⟨w.heap.size, 4, none⟩ (.slice (some ⟨gQ, 0, none⟩) 1 capQ)).setRow q2 #[.int .i64 k, .string ⟨#[]⟩, .string ⟨#[]⟩, .slice none 0 0, (.slice (some ⟨gQ, 0, none⟩) 1 capQ)]) fun g hg => setRow_other _ _ _ _ (by have := (own_lt'' OQ.out hg).1; have := HQ1.out; omega)
      exact add_end HK64.out HQ1.out.2.2 HB HSL.out (RowF.nil _ _) (by have := RowF.one (c := xc) (d := xd) HX.out; rw [HXE.out] at this; exact this) HO rfl (by unfold maxLen; omega)
    · simp only [List.getElem_toArray, List.getElem_cons_succ, List.getElem_cons_zero]
      obtain ⟨j0, j1, j2, j3, j4⟩ := (R0.out.later B1.out).box
      go_simp
      clear j0 j1 j2 j3 j4
      have B2 := B1
      have RB2 := RB1
      refine hK.out _ _ (HS.out _ B2.out) (fun hHeld1 => ?_)
      clear hK K hHeld
      have hHeld := hHeld1; clear hHeld1
      try simp only [List.getElem_toArray, List.getElem_cons_succ, List.getElem_cons_zero, Act.put, List.setIfInBounds_toArray, List.set_cons_zero, List.set_cons_succ]
      refine wpAnyH_ready (rs := [0]) (by kernel_rfl) (by simp) (AllReadyH.cons rfl (fun K hK => ?_) AllReadyH.nil)
      simp only [List.getElem_toArray, List.getElem_cons_succ, List.getElem_cons_zero]
      refine wp_buildEmpty rfl hi ?_
      obtain ⟨WA3, hWn⟩ : ∃ v, v = WA1.alloc (.cells #[] 25) := ⟨_, rfl⟩
      rw [← hWn]
      have B3 := Lib.hid (show Below wd.heap.size wd WA3 by rw [hWn]; exact B2.out.alloc B2.out.size _)
      have O3 := Lib.hid (show WA3.ownsRow wd.heap.size 25 5 (.slice (some ⟨WA1.heap.size, 0, none⟩) 0 0) 0 [] by rw [hWn]; exact own_empty _ _ B2.out.size)
      have RB3 := Lib.hid (show Rw WA3 wd.heap.size #[.int .i64 xk, .string xn, .string xo, .slice xa x1 xc, .slice xb x2 xd] by rw [hWn]; exact RB2.out.alloc _)
      have NE3 := Lib.hid (show ¬ wd.heap.size = WA1.heap.size by have := RB2.out.lt; omega)
      clear hWn
      refine hK.out _ _ (HS.out _ B3.out) (fun hHeld1 => ?_)
      clear hK K hHeld
      have hHeld := hHeld1; clear hHeld1
      try simp only [List.getElem_toArray, List.getElem_cons_succ, List.getElem_cons_zero, Act.put, List.setIfInBounds_toArray, List.set_cons_zero, List.set_cons_succ]
      refine wpAnyH_ready (rs := [3]) (by kernel_rfl) (by simp) (AllReadyH.cons rfl (fun K hK => ?_) AllReadyH.nil)
      simp only [List.getElem_toArray, List.getElem_cons_succ, List.getElem_cons_zero]
      go_simp
      have B4 := B3
      have O4 := O3
      have RB4 := RB3
      have NE4 := NE3
      refine hK.out _ _ (HS.out _ B4.out) (fun hHeld1 => ?_)
      clear hK K hHeld
      have hHeld := hHeld1; clear hHeld1
      try simp only [List.getElem_toArray, List.getElem_cons_succ, List.getElem_cons_zero, Act.put, List.setIfInBounds_toArray, List.set_cons_zero, List.set_cons_succ]
      refine wpAnyH_ready (rs := [6]) (by kernel_rfl) (by simp) (AllReadyH.cons rfl (fun K hK => ?_) AllReadyH.nil)
      simp only [List.getElem_toArray, List.getElem_cons_succ, List.getElem_cons_zero]
      refine wp_append_lies WA3 (.tmp 22) (.tmp 24) 23 rfl wd.heap.size 25 i0 (.agg #[.int .i64 0, .string ⟨#[]⟩, .string ⟨#[]⟩, .slice none 0 0, .slice none 0 0]) 5 88 Tryz.underlying23 hi hz0 hz1 hz2 rfl (by decide) (.slice (some ⟨WA1.heap.size, 0, none⟩) 0 0) 0 [] rfl O4.out ⟨wd.heap.size, 0, none⟩ 1 1 [.int .i64 xk, .string xn, .string xo, .slice xa x1 xc, .slice xb x2 xd] rfl rfl (World.news_of_block (show WA3.heap[wd.heap.size]? = some (.cells #[.int .i64 xk, .string xn, .string xo, .slice xa x1 xc, .slice xb x2 xd] 25 (0, 0)) from RB4.out)) (by intro u hu; simp at hu; rcases hu with rfl | rfl | rfl | rfl | rfl <;> rfl) (by decide) (by unfold maxLen; omega) (by omega) B4.out.size WA3.heap.size rfl ?_
      intro gQ capQ WQ hown hgrow hat hglt
      have BQ := Lib.hid (show Below wd.heap.size wd WQ from own_below B4.out O4.out hgrow)
      try simp only [Nat.zero_add, List.nil_append] at hown
      have OQ := Lib.hid hown
      clear hown hgrow hat hglt
      refine hK.out _ _ (HS.out _ BQ.out) (fun hHeld1 => ?_)
      clear hK K hHeld
      have hHeld := hHeld1; clear hHeld1
      try simp only [List.getElem_toArray, List.getElem_cons_succ, List.getElem_cons_zero, Act.put, List.setIfInBounds_toArray, List.set_cons_zero, List.set_cons_succ]
      refine wpAnyH_take (i := 7) (v := ?vZ18) rfl (by kernel_rfl) (by kernel_rfl) (by kernel_rfl) (fun _ _ _ h => h) (Or.inl ⟨by rfl, ?yZ18⟩) hHeld ?rZ18
      case yZ18 => (intro W hSw; simp only [List.getElem_toArray, List.getElem_cons_succ, List.getElem_cons_zero]; go_simp; try (with_reducible rfl))
      simp only [List.getElem_toArray, List.getElem_cons_succ, List.getElem_cons_zero, Act.put, List.setIfInBounds_toArray, List.set_cons_zero, List.set_cons_succ]
      refine wpAnyH_ready (rs := [8]) (by kernel_rfl) (by simp) (AllReadyH.cons rfl (fun K hK => ?_) AllReadyH.nil)
      simp only [List.getElem_toArray, List.getElem_cons_succ, List.getElem_cons_zero]
      have XF := R0.out.later BQ.out
      obtain ⟨j0, j1, j2, j3, j4⟩ := XF.box
      have jl : w.heap.size < WQ.heap.size := XF.lt
      have jf : WQ.frozen? ⟨w.heap.size, 4, none⟩ = false := rw_frozen XF 4
      have jq : ¬ w.heap.size = q1 := by have := HQ1.out; omega
      have jn : ¬ q1 = w.heap.size := fun e => jq e.symm
      go_simp
      refine hK.out _ _ (HS2.out _ _ BQ.out) (fun hHeld1 => ?_)
      clear hK K hHeld
      have hHeld := hHeld1; clear hHeld1
      try simp only [List.getElem_toArray, List.getElem_cons_succ, List.getElem_cons_zero, Act.put, List.setIfInBounds_toArray, List.set_cons_zero, List.set_cons_succ]
      refine wpAnyH_done (by kernel_rfl) ?_ _
      have YF := Lib.hid (show Rw (WQ.setCell ⟨w.heap.size, 4, none⟩ (.slice (some ⟨gQ, 0, none⟩) 1 capQ)) q2 #[.int .i64 0, .string ⟨#[]⟩, .string ⟨#[]⟩, .slice none 0 0, .slice none 0 0] from (Z0.out.later BQ.out).same (Below.heap_setCell _ _ _ _ (by have := HQ1.out; simp only; omega)))
      go_wp2_with (skip; (refine wpList_store_rowTo rfl _ _ _ rfl rfl q2 _ rfl rfl _ #[.int .i64 0, .string ⟨#[]⟩, .string ⟨#[]⟩, .slice none 0 0, .slice none 0 0] (by first | exact YF.out) (by kernel_rfl) rfl (by simp [Value.oneCell']) ?_))
      refine retF Tryz.results43 rfl (YF.out.set _).box rfl ?_
      have HB1 : w.grownBy WQ (some w.heap.size) := gr_of_below (BW3.out.trans (BQ.out.mono BW3.out.size))
      have HB2 : w.grownBy (WQ.setCell ⟨w.heap.size, 4, none⟩ (.slice (some ⟨gQ, 0, none⟩) 1 capQ)) (some w.heap.size) := gr_new HB1 (Nat.le_refl _) (.slice (some ⟨gQ, 0, none⟩) 1 capQ)
      have HB3 : w.grownBy ((WQ.setCell ⟨w.heap.size, 4, none⟩ (.slice (some ⟨gQ, 0, none⟩) 1 capQ)).setRow q2 #[.int .i64 k, .string ⟨#[]⟩, .string ⟨#[]⟩, .slice none 0 0, (.slice (some ⟨gQ, 0, none⟩) 1 capQ)]) (some w.heap.size) := gr_row HB2 (by have := HQ1.out; omega) _
      have HB : Below w.heap.size w ((WQ.setCell ⟨w.heap.size, 4, none⟩ (.slice (some ⟨gQ, 0, none⟩) 1 capQ)).setRow q2 #[.int .i64 k, .string ⟨#[]⟩, .string ⟨#[]⟩, .slice none 0 0, (.slice (some ⟨gQ, 0, none⟩) 1 capQ)]) := gr_below HB3 (Nat.le_refl _) (Nat.le_refl _)
      have HO := own_keep (own_keep OQ.out (V := WQ.setCell ⟨w.heap.size, 4, none⟩ (.slice (some ⟨gQ, 0, none⟩) 1 capQ)) fun g hg => Below.heap_setCell _ _ _ _ (by have := (own_lt'' OQ.out hg).1; have := HQ1.out; simp only; omega)) (V := (WQ.setCell ⟨w.heap.size, 4, none⟩ (.slice (some ⟨gQ, 0, none⟩) 1 capQ)).setRow q2 #[.int .i64 k, .string ⟨#[]⟩, .string ⟨#[]⟩, .slice none 0 0, (.slice (some ⟨gQ, 0, none⟩) 1 capQ)]) fun g hg => setRow_other _ _ _ _ (by have := (own_lt'' OQ.out hg).1; have := HQ1.out; omega)
      exact add_end HK64.out HQ1.out.2.2 HB HSL.out (RowF.nil _ _) (by have := RowF.one (c := xc) (d := xd) HX.out; rw [HXE.out] at this; exact this) HO rfl (by unfold maxLen; omega)
set_option maxHeartbeats 8000000 in
set_option maxRecDepth 100000 in
theorem padd_one_eq (k : Int) (hk : -9223372036854775808 ≤ k ∧ k ≤ 9223372036854775807) (x : Flt) (hkx : x.kind = k) (hx0 : 0 < x.parts.length) (hxl : x.parts.length ≤ 2000) (xa : Option Addr) (xc : Nat) (xb : Option Addr) (xd : Nat) (S : Nat → Prop) (w : World) (hSL : ∀ g, S g → g < w.heap.size) (hX : FltAt w S x xa xb) :
    Calls Tryz.prog 43 #[.agg #[.int .i64 k, .string ⟨#[]⟩, .string ⟨#[]⟩, .slice none 0 0, .slice none 0 0], .agg #[.int .i64 x.kind, bs x.name, bs x.op, .slice xa x.vals.length xc, .slice xb x.parts.length xd]] w fun e w' => AddE k ([] ++ x.parts) S w w' e := by
  obtain ⟨i0, hi, hz0, hz1, hz2⟩ := info_cut' infoFlt
  have HK64 := Lib.hid hk
  have HSL := Lib.hid hSL
  obtain ⟨gX, oX, xsX, hbx, hSX, hXX, hLX⟩ := parts_lies hX.parts hx0
  subst hbx
  obtain ⟨x2, hx2⟩ : ∃ n, n = x.parts.length := ⟨_, rfl⟩
  have HX2 := Lib.hid hx2
  have HXX := Lib.hid hXX
  have HLX0 := Lib.hid hLX
  have hgX := hSL gX hSX
  rw [← hx2] at hx0 hxl ⊢
  obtain ⟨xn, exn, _⟩ := bs_bytes x.name
  obtain ⟨xo, exo, _⟩ := bs_bytes x.op
  obtain ⟨xk, hxk⟩ : ∃ z, z = x.kind := ⟨_, rfl⟩
  obtain ⟨x1, hx1⟩ : ∃ z, z = x.vals.length := ⟨_, rfl⟩
  have HX := Lib.hid hX
  rw [exn, exo, ← hxk, ← hx1]
  rw [← hxk] at hkx
  clear hXX hLX hx2 hSX
  subst hkx
  clear hX exn exo hxk hx1 hk
  obtain ⟨q1, hq1⟩ : ∃ q, q = w.heap.size + 1 := ⟨_, rfl⟩
  obtain ⟨q2, hq2⟩ : ∃ q, q = w.heap.size + 1 + 1 := ⟨_, rfl⟩
  obtain ⟨w3, hw3⟩ : ∃ v, v = ((w.alloc (.cells #[.int .i64 xk, .string ⟨#[]⟩, .string ⟨#[]⟩, .slice none 0 0, .slice none 0 0] 25)).alloc (.cells #[.int .i64 xk, .string xn, .string xo, .slice xa x1 xc, .slice (some ⟨gX, oX, none⟩) x2 xd] 25)).alloc (.cells #[.int .i64 0, .string ⟨#[]⟩, .string ⟨#[]⟩, .slice none 0 0, .slice none 0 0] 25) := ⟨_, rfl⟩
  have HW3 := Lib.hid hw3
  have HQE := Lib.hid (And.intro hq1 hq2)
  have hsz1 : (w.alloc (.cells #[.int .i64 xk, .string ⟨#[]⟩, .string ⟨#[]⟩, .slice none 0 0, .slice none 0 0] 25)).heap.size = q1 := by simp [hq1]
  have hsz2 : ((w.alloc (.cells #[.int .i64 xk, .string ⟨#[]⟩, .string ⟨#[]⟩, .slice none 0 0, .slice none 0 0] 25)).alloc (.cells #[.int .i64 xk, .string xn, .string xo, .slice xa x1 xc, .slice (some ⟨gX, oX, none⟩) x2 xd] 25)).heap.size = q2 := by simp [hq2]
  have hsz3 : w3.heap.size = q2 + 1 := by rw [hw3, hq2]; simp
  obtain ⟨wd, hwd⟩ : ∃ v, v = w3.drew := ⟨_, rfl⟩
  have HWD := Lib.hid hwd
  have hszd : wd.heap.size = w3.heap.size := by rw [hwd]; rfl
  have HQ1 := Lib.hid (show q1 = w.heap.size + 1 ∧ (q2 = q1 + 1 ∧ q2 < wd.heap.size) ∧ w.heap.size ≤ wd.heap.size from ⟨hq1, ⟨by omega, by omega⟩, by omega⟩)
  have R0 := Lib.hid (show Rw wd w.heap.size #[.int .i64 xk, .string ⟨#[]⟩, .string ⟨#[]⟩, .slice none 0 0, .slice none 0 0] by rw [hwd, hw3]; exact ((Rw.new ..).alloc2 _ _).same rfl)
  have X0 := Lib.hid (show Rw wd q1 #[.int .i64 xk, .string xn, .string xo, .slice xa x1 xc, .slice (some ⟨gX, oX, none⟩) x2 xd] by rw [hwd, hw3, ← hsz1]; exact ((Rw.new ..).alloc _).same rfl)
  have Z0 := Lib.hid (show Rw wd q2 #[.int .i64 0, .string ⟨#[]⟩, .string ⟨#[]⟩, .slice none 0 0, .slice none 0 0] by rw [hwd, hw3, ← hsz2]; exact (Rw.new ..).same rfl)
  have BW3 := Lib.hid (show Below w.heap.size w wd by rw [hwd, hw3]; exact (((Below.refl _ _).alloc (Nat.le_refl _) _).alloc (by simp) _ |>.alloc (by simp; omega) _).drew)
  have HGX := Lib.hid (show gX < wd.heap.size by have := HQ1.out; omega)
  have HLX := Lib.hid (fun j u hu => (lies_later BW3.out hgX HLX0.out j u hu))
  have HS := Lib.hid (show ∀ W, Below wd.heap.size wd W → (fun W => W.cell? ⟨q1, 0, none⟩ = some (.int .i64 xk) ∧ W.cell? ⟨q1, 1, none⟩ = some (.string xn) ∧ W.cell? ⟨q1, 2, none⟩ = some (.string xo) ∧ W.cell? ⟨q1, 3, none⟩ = some (.slice xa x1 xc) ∧ W.cell? ⟨q1, 4, none⟩ = some (.slice (some ⟨gX, oX, none⟩) x2 xd)) W from fun W hW => (X0.out.later hW).box)
  have HS2 := Lib.hid (show ∀ W (v : Value), Below wd.heap.size wd W → (fun W => W.cell? ⟨q1, 0, none⟩ = some (.int .i64 xk) ∧ W.cell? ⟨q1, 1, none⟩ = some (.string xn) ∧ W.cell? ⟨q1, 2, none⟩ = some (.string xo) ∧ W.cell? ⟨q1, 3, none⟩ = some (.slice xa x1 xc) ∧ W.cell? ⟨q1, 4, none⟩ = some (.slice (some ⟨gX, oX, none⟩) x2 xd)) (W.setCell ⟨w.heap.size, 4, none⟩ v) from fun W v hW => ((X0.out.later hW).same (Below.heap_setCell _ _ _ _ (by have := HQ1.out; simp only; omega))).box)
  clear hw3 hwd hq1 hq2 hsz1 hsz2 hsz3 hszd
  go_enter Tryz.func43, Tryz.ntmps43
  go_wp2_with fail
  rw [← HW3.out, ← HQE.out.2, ← HQE.out.1]
  refine wp_region_held_drew (S := (fun W => W.cell? ⟨q1, 0, none⟩ = some (.int .i64 xk) ∧ W.cell? ⟨q1, 1, none⟩ = some (.string xn) ∧ W.cell? ⟨q1, 2, none⟩ = some (.string xo) ∧ W.cell? ⟨q1, 3, none⟩ = some (.slice xa x1 xc) ∧ W.cell? ⟨q1, 4, none⟩ = some (.slice (some ⟨gX, oX, none⟩) x2 xd))) (by kernel_rfl) (by rw [← HWD.out]; exact HS.out _ (Below.refl _ _)) (fun hHeld => ?_)
  rw [← HWD.out] at hHeld ⊢
  refine wpAnyH_take (i := 1) (v := ?vA1) rfl (by kernel_rfl) (by kernel_rfl) (by kernel_rfl) (fun _ _ _ h => h) (Or.inl ⟨by rfl, ?yA1⟩) hHeld ?rA1
  case yA1 => (intro W hSw; simp only [List.getElem_toArray, List.getElem_cons_succ, List.getElem_cons_zero]; go_simp; try (with_reducible rfl))
  simp only [List.getElem_toArray, List.getElem_cons_succ, List.getElem_cons_zero, Act.put, List.setIfInBounds_toArray, List.set_cons_zero, List.set_cons_succ]
  refine wpAnyH_take (i := 4) (v := ?vA4) rfl (by kernel_rfl) (by kernel_rfl) (by kernel_rfl) (fun _ _ _ h => h) (Or.inl ⟨by rfl, ?yA4⟩) hHeld ?rA4
  case yA4 => (intro W hSw; simp only [List.getElem_toArray, List.getElem_cons_succ, List.getElem_cons_zero]; go_simp; try (with_reducible rfl))
  simp only [List.getElem_toArray, List.getElem_cons_succ, List.getElem_cons_zero, Act.put, List.setIfInBounds_toArray, List.set_cons_zero, List.set_cons_succ]
  refine wpAnyH_take (i := 5) (v := ?vA5) rfl (by kernel_rfl) (by kernel_rfl) (by kernel_rfl) (fun _ _ _ h => h) (Or.inl ⟨by rfl, ?yA5⟩) hHeld ?rA5
  case yA5 => (intro W hSw; simp only [List.getElem_toArray, List.getElem_cons_succ, List.getElem_cons_zero]; go_simp; try (with_reducible rfl))
  simp only [List.getElem_toArray, List.getElem_cons_succ, List.getElem_cons_zero, Act.put, List.setIfInBounds_toArray, List.set_cons_zero, List.set_cons_succ]
  have B0 := Lib.hid (Below.refl wd.heap.size wd)
  refine wpAnyH_ready (rs := [0, 2]) (by kernel_rfl) (by simp) (AllReadyH.cons rfl (fun K hK => ?_) (AllReadyH.cons rfl (fun K hK => ?_) AllReadyH.nil))
  · simp only [List.getElem_toArray, List.getElem_cons_succ, List.getElem_cons_zero]
    refine wp_buildEmpty rfl hi ?_
    obtain ⟨WA1, hWn⟩ : ∃ v, v = wd.alloc (.cells #[] 25) := ⟨_, rfl⟩
    rw [← hWn]
    have B1 := Lib.hid (show Below wd.heap.size wd WA1 by rw [hWn]; exact B0.out.alloc B0.out.size _)
    have O1 := Lib.hid (show WA1.ownsRow wd.heap.size 25 5 (.slice (some ⟨wd.heap.size, 0, none⟩) 0 0) 0 [] by rw [hWn]; exact own_empty _ _ B0.out.size)
    clear hWn
    refine hK.out _ _ (HS.out _ B1.out) (fun hHeld1 => ?_)
    clear hK K hHeld
    have hHeld := hHeld1; clear hHeld1
    try simp only [List.getElem_toArray, List.getElem_cons_succ, List.getElem_cons_zero, Act.put, List.setIfInBounds_toArray, List.set_cons_zero, List.set_cons_succ]
    refine wpAnyH_ready (rs := [2]) (by kernel_rfl) (by simp) (AllReadyH.cons rfl (fun K hK => ?_) AllReadyH.nil)
    simp only [List.getElem_toArray, List.getElem_cons_succ, List.getElem_cons_zero]
    obtain ⟨j0, j1, j2, j3, j4⟩ := (R0.out.later B1.out).box
    go_simp
    clear j0 j1 j2 j3 j4
    have B2 := B1
    have O2 := O1
    refine hK.out _ _ (HS.out _ B2.out) (fun hHeld1 => ?_)
    clear hK K hHeld
    have hHeld := hHeld1; clear hHeld1
    try simp only [List.getElem_toArray, List.getElem_cons_succ, List.getElem_cons_zero, Act.put, List.setIfInBounds_toArray, List.set_cons_zero, List.set_cons_succ]
    refine wpAnyH_ready (rs := [3]) (by kernel_rfl) (by simp) (AllReadyH.cons rfl (fun K hK => ?_) AllReadyH.nil)
    simp only [List.getElem_toArray, List.getElem_cons_succ, List.getElem_cons_zero]
    go_simp
    have B3 := B2
    have O3 := O2
    refine hK.out _ _ (HS.out _ B3.out) (fun hHeld1 => ?_)
    clear hK K hHeld
    have hHeld := hHeld1; clear hHeld1
    try simp only [List.getElem_toArray, List.getElem_cons_succ, List.getElem_cons_zero, Act.put, List.setIfInBounds_toArray, List.set_cons_zero, List.set_cons_succ]
    refine wpAnyH_ready (rs := [6]) (by kernel_rfl) (by simp) (AllReadyH.cons rfl (fun K hK => ?_) AllReadyH.nil)
    simp only [List.getElem_toArray, List.getElem_cons_succ, List.getElem_cons_zero]
    refine wp_append_lies WA1 (.tmp 13) (.tmp 15) 23 rfl wd.heap.size 25 i0 (.agg #[.int .i64 0, .string ⟨#[]⟩, .string ⟨#[]⟩, .slice none 0 0, .slice none 0 0]) 5 88 Tryz.underlying23 hi hz0 hz1 hz2 rfl (by decide) (.slice (some ⟨wd.heap.size, 0, none⟩) 0 0) 0 [] rfl O3.out ⟨gX, oX, none⟩ x2 xd xsX rfl (by rw [HX2.out]; exact HXX.out.1) (fun j u hu => lies_later B3.out HGX.out HLX.out j u hu) HXX.out.2.1 hx0 (by unfold maxLen; omega) (by omega) B3.out.size WA1.heap.size rfl ?_
    intro gQ capQ WQ hown hgrow hat hglt
    have BQ := Lib.hid (show Below wd.heap.size wd WQ from own_below B3.out O3.out hgrow)
    try simp only [Nat.zero_add, List.nil_append] at hown
    have OQ := Lib.hid hown
    clear hown hgrow hat hglt
    refine hK.out _ _ (HS.out _ BQ.out) (fun hHeld1 => ?_)
    clear hK K hHeld
    have hHeld := hHeld1; clear hHeld1
    try simp only [List.getElem_toArray, List.getElem_cons_succ, List.getElem_cons_zero, Act.put, List.setIfInBounds_toArray, List.set_cons_zero, List.set_cons_succ]
    refine wpAnyH_take (i := 7) (v := ?vZ19) rfl (by kernel_rfl) (by kernel_rfl) (by kernel_rfl) (fun _ _ _ h => h) (Or.inl ⟨by rfl, ?yZ19⟩) hHeld ?rZ19
    case yZ19 => (intro W hSw; simp only [List.getElem_toArray, List.getElem_cons_succ, List.getElem_cons_zero]; go_simp; try (with_reducible rfl))
    simp only [List.getElem_toArray, List.getElem_cons_succ, List.getElem_cons_zero, Act.put, List.setIfInBounds_toArray, List.set_cons_zero, List.set_cons_succ]
    refine wpAnyH_ready (rs := [8]) (by kernel_rfl) (by simp) (AllReadyH.cons rfl (fun K hK => ?_) AllReadyH.nil)
    simp only [List.getElem_toArray, List.getElem_cons_succ, List.getElem_cons_zero]
    have XF := R0.out.later BQ.out
    obtain ⟨j0, j1, j2, j3, j4⟩ := XF.box
    have jl : w.heap.size < WQ.heap.size := XF.lt
    have jf : WQ.frozen? ⟨w.heap.size, 4, none⟩ = false := rw_frozen XF 4
    have jq : ¬ w.heap.size = q1 := by have := HQ1.out; omega
    have jn : ¬ q1 = w.heap.size := fun e => jq e.symm
    go_simp
    refine hK.out _ _ (HS2.out _ _ BQ.out) (fun hHeld1 => ?_)
    clear hK K hHeld
    have hHeld := hHeld1; clear hHeld1
    try simp only [List.getElem_toArray, List.getElem_cons_succ, List.getElem_cons_zero, Act.put, List.setIfInBounds_toArray, List.set_cons_zero, List.set_cons_succ]
    refine wpAnyH_done (by kernel_rfl) ?_ _
    have YF := Lib.hid (show Rw (WQ.setCell ⟨w.heap.size, 4, none⟩ (.slice (some ⟨gQ, 0, none⟩) x2 capQ)) q2 #[.int .i64 0, .string ⟨#[]⟩, .string ⟨#[]⟩, .slice none 0 0, .slice none 0 0] from (Z0.out.later BQ.out).same (Below.heap_setCell _ _ _ _ (by have := HQ1.out; simp only; omega)))
    go_wp2_with (skip; (refine wpList_store_rowTo rfl _ _ _ rfl rfl q2 _ rfl rfl _ #[.int .i64 0, .string ⟨#[]⟩, .string ⟨#[]⟩, .slice none 0 0, .slice none 0 0] (by first | exact YF.out) (by kernel_rfl) rfl (by simp [Value.oneCell']) ?_))
    refine retF Tryz.results43 rfl (YF.out.set _).box rfl ?_
    have HB1 : w.grownBy WQ (some w.heap.size) := gr_of_below (BW3.out.trans (BQ.out.mono BW3.out.size))
    have HB2 : w.grownBy (WQ.setCell ⟨w.heap.size, 4, none⟩ (.slice (some ⟨gQ, 0, none⟩) x2 capQ)) (some w.heap.size) := gr_new HB1 (Nat.le_refl _) (.slice (some ⟨gQ, 0, none⟩) x2 capQ)
    have HB3 : w.grownBy ((WQ.setCell ⟨w.heap.size, 4, none⟩ (.slice (some ⟨gQ, 0, none⟩) x2 capQ)).setRow q2 #[.int .i64 xk, .string ⟨#[]⟩, .string ⟨#[]⟩, .slice none 0 0, (.slice (some ⟨gQ, 0, none⟩) x2 capQ)]) (some w.heap.size) := gr_row HB2 (by have := HQ1.out; omega) _
    have HB : Below w.heap.size w ((WQ.setCell ⟨w.heap.size, 4, none⟩ (.slice (some ⟨gQ, 0, none⟩) x2 capQ)).setRow q2 #[.int .i64 xk, .string ⟨#[]⟩, .string ⟨#[]⟩, .slice none 0 0, (.slice (some ⟨gQ, 0, none⟩) x2 capQ)]) := gr_below HB3 (Nat.le_refl _) (Nat.le_refl _)
    have HO := own_keep (own_keep OQ.out (V := WQ.setCell ⟨w.heap.size, 4, none⟩ (.slice (some ⟨gQ, 0, none⟩) x2 capQ)) fun g hg => Below.heap_setCell _ _ _ _ (by have := (own_lt'' OQ.out hg).1; have := HQ1.out; simp only; omega)) (V := (WQ.setCell ⟨w.heap.size, 4, none⟩ (.slice (some ⟨gQ, 0, none⟩) x2 capQ)).setRow q2 #[.int .i64 xk, .string ⟨#[]⟩, .string ⟨#[]⟩, .slice none 0 0, (.slice (some ⟨gQ, 0, none⟩) x2 capQ)]) fun g hg => setRow_other _ _ _ _ (by have := (own_lt'' OQ.out hg).1; have := HQ1.out; omega)
    exact add_end HK64.out HQ1.out.2.2 HB HSL.out (RowF.nil _ _) HXX.out HO (by rw [HX2.out]; rfl) (by unfold maxLen; omega)
  · simp only [List.getElem_toArray, List.getElem_cons_succ, List.getElem_cons_zero]
    obtain ⟨j0, j1, j2, j3, j4⟩ := (R0.out.later B0.out).box
    go_simp
    clear j0 j1 j2 j3 j4
    have B1 := B0
    refine hK.out _ _ (HS.out _ B1.out) (fun hHeld1 => ?_)
    clear hK K hHeld
    have hHeld := hHeld1; clear hHeld1
    try simp only [List.getElem_toArray, List.getElem_cons_succ, List.getElem_cons_zero, Act.put, List.setIfInBounds_toArray, List.set_cons_zero, List.set_cons_succ]
    refine wpAnyH_ready (rs := [0]) (by kernel_rfl) (by simp) (AllReadyH.cons rfl (fun K hK => ?_) AllReadyH.nil)
    simp only [List.getElem_toArray, List.getElem_cons_succ, List.getElem_cons_zero]
    refine wp_buildEmpty rfl hi ?_
    obtain ⟨WA2, hWn⟩ : ∃ v, v = wd.alloc (.cells #[] 25) := ⟨_, rfl⟩
    rw [← hWn]
    have B2 := Lib.hid (show Below wd.heap.size wd WA2 by rw [hWn]; exact B1.out.alloc B1.out.size _)
    have O2 := Lib.hid (show WA2.ownsRow wd.heap.size 25 5 (.slice (some ⟨wd.heap.size, 0, none⟩) 0 0) 0 [] by rw [hWn]; exact own_empty _ _ B1.out.size)
    clear hWn
    refine hK.out _ _ (HS.out _ B2.out) (fun hHeld1 => ?_)
    clear hK K hHeld
    have hHeld := hHeld1; clear hHeld1
    try simp only [List.getElem_toArray, List.getElem_cons_succ, List.getElem_cons_zero, Act.put, List.setIfInBounds_toArray, List.set_cons_zero, List.set_cons_succ]
    refine wpAnyH_ready (rs := [3]) (by kernel_rfl) (by simp) (AllReadyH.cons rfl (fun K hK => ?_) AllReadyH.nil)
    simp only [List.getElem_toArray, List.getElem_cons_succ, List.getElem_cons_zero]
    go_simp
    have B3 := B2
    have O3 := O2
    refine hK.out _ _ (HS.out _ B3.out) (fun hHeld1 => ?_)
    clear hK K hHeld
    have hHeld := hHeld1; clear hHeld1
    try simp only [List.getElem_toArray, List.getElem_cons_succ, List.getElem_cons_zero, Act.put, List.setIfInBounds_toArray, List.set_cons_zero, List.set_cons_succ]
    refine wpAnyH_ready (rs := [6]) (by kernel_rfl) (by simp) (AllReadyH.cons rfl (fun K hK => ?_) AllReadyH.nil)
    simp only [List.getElem_toArray, List.getElem_cons_succ, List.getElem_cons_zero]
    refine wp_append_lies WA2 (.tmp 13) (.tmp 15) 23 rfl wd.heap.size 25 i0 (.agg #[.int .i64 0, .string ⟨#[]⟩, .string ⟨#[]⟩, .slice none 0 0, .slice none 0 0]) 5 88 Tryz.underlying23 hi hz0 hz1 hz2 rfl (by decide) (.slice (some ⟨wd.heap.size, 0, none⟩) 0 0) 0 [] rfl O3.out ⟨gX, oX, none⟩ x2 xd xsX rfl (by rw [HX2.out]; exact HXX.out.1) (fun j u hu => lies_later B3.out HGX.out HLX.out j u hu) HXX.out.2.1 hx0 (by unfold maxLen; omega) (by omega) B3.out.size WA2.heap.size rfl ?_
    intro gQ capQ WQ hown hgrow hat hglt
    have BQ := Lib.hid (show Below wd.heap.size wd WQ from own_below B3.out O3.out hgrow)
    try simp only [Nat.zero_add, List.nil_append] at hown
    have OQ := Lib.hid hown
    clear hown hgrow hat hglt
    refine hK.out _ _ (HS.out _ BQ.out) (fun hHeld1 => ?_)
    clear hK K hHeld
    have hHeld := hHeld1; clear hHeld1
    try simp only [List.getElem_toArray, List.getElem_cons_succ, List.getElem_cons_zero, Act.put, List.setIfInBounds_toArray, List.set_cons_zero, List.set_cons_succ]
    refine wpAnyH_take (i := 7) (v := ?vZ20) rfl (by kernel_rfl) (by kernel_rfl) (by kernel_rfl) (fun _ _ _ h => h) (Or.inl ⟨by rfl, ?yZ20⟩) hHeld ?rZ20
    case yZ20 => (intro W hSw; simp only [List.getElem_toArray, List.getElem_cons_succ, List.getElem_cons_zero]; go_simp; try (with_reducible rfl))
    simp only [List.getElem_toArray, List.getElem_cons_succ, List.getElem_cons_zero, Act.put, List.setIfInBounds_toArray, List.set_cons_zero, List.set_cons_succ]
    refine wpAnyH_ready (rs := [8]) (by kernel_rfl) (by simp) (AllReadyH.cons rfl (fun K hK => ?_) AllReadyH.nil)
    simp only [List.getElem_toArray, List.getElem_cons_succ, List.getElem_cons_zero]
    have XF := R0.out.later BQ.out
    obtain ⟨j0, j1, j2, j3, j4⟩ := XF.box
    have jl : w.heap.size < WQ.heap.size := XF.lt
    have jf : WQ.frozen? ⟨w.heap.size, 4, none⟩ = false := rw_frozen XF 4
    have jq : ¬ w.heap.size = q1 := by have := HQ1.out; omega
    have jn : ¬ q1 = w.heap.size := fun e => jq e.symm
    go_simp
    refine hK.out _ _ (HS2.out _ _ BQ.out) (fun hHeld1 => ?_)
    clear hK K hHeld
    have hHeld := hHeld1; clear hHeld1
    try simp only [List.getElem_toArray, List.getElem_cons_succ, List.getElem_cons_zero, Act.put, List.setIfInBounds_toArray, List.set_cons_zero, List.set_cons_succ]
    refine wpAnyH_done (by kernel_rfl) ?_ _
    have YF := Lib.hid (show Rw (WQ.setCell ⟨w.heap.size, 4, none⟩ (.slice (some ⟨gQ, 0, none⟩) x2 capQ)) q2 #[.int .i64 0, .string ⟨#[]⟩, .string ⟨#[]⟩, .slice none 0 0, .slice none 0 0] from (Z0.out.later BQ.out).same (Below.heap_setCell _ _ _ _ (by have := HQ1.out; simp only; omega)))
    go_wp2_with (skip; (refine wpList_store_rowTo rfl _ _ _ rfl rfl q2 _ rfl rfl _ #[.int .i64 0, .string ⟨#[]⟩, .string ⟨#[]⟩, .slice none 0 0, .slice none 0 0] (by first | exact YF.out) (by kernel_rfl) rfl (by simp [Value.oneCell']) ?_))
    refine retF Tryz.results43 rfl (YF.out.set _).box rfl ?_
    have HB1 : w.grownBy WQ (some w.heap.size) := gr_of_below (BW3.out.trans (BQ.out.mono BW3.out.size))
    have HB2 : w.grownBy (WQ.setCell ⟨w.heap.size, 4, none⟩ (.slice (some ⟨gQ, 0, none⟩) x2 capQ)) (some w.heap.size) := gr_new HB1 (Nat.le_refl _) (.slice (some ⟨gQ, 0, none⟩) x2 capQ)
    have HB3 : w.grownBy ((WQ.setCell ⟨w.heap.size, 4, none⟩ (.slice (some ⟨gQ, 0, none⟩) x2 capQ)).setRow q2 #[.int .i64 xk, .string ⟨#[]⟩, .string ⟨#[]⟩, .slice none 0 0, (.slice (some ⟨gQ, 0, none⟩) x2 capQ)]) (some w.heap.size) := gr_row HB2 (by have := HQ1.out; omega) _
    have HB : Below w.heap.size w ((WQ.setCell ⟨w.heap.size, 4, none⟩ (.slice (some ⟨gQ, 0, none⟩) x2 capQ)).setRow q2 #[.int .i64 xk, .string ⟨#[]⟩, .string ⟨#[]⟩, .slice none 0 0, (.slice (some ⟨gQ, 0, none⟩) x2 capQ)]) := gr_below HB3 (Nat.le_refl _) (Nat.le_refl _)
    have HO := own_keep (own_keep OQ.out (V := WQ.setCell ⟨w.heap.size, 4, none⟩ (.slice (some ⟨gQ, 0, none⟩) x2 capQ)) fun g hg => Below.heap_setCell _ _ _ _ (by have := (own_lt'' OQ.out hg).1; have := HQ1.out; simp only; omega)) (V := (WQ.setCell ⟨w.heap.size, 4, none⟩ (.slice (some ⟨gQ, 0, none⟩) x2 capQ)).setRow q2 #[.int .i64 xk, .string ⟨#[]⟩, .string ⟨#[]⟩, .slice none 0 0, (.slice (some ⟨gQ, 0, none⟩) x2 capQ)]) fun g hg => setRow_other _ _ _ _ (by have := (own_lt'' OQ.out hg).1; have := HQ1.out; omega)
    exact add_end HK64.out HQ1.out.2.2 HB HSL.out (RowF.nil _ _) HXX.out HO (by rw [HX2.out]; rfl) (by unfold maxLen; omega)
end Go.Proofs.YtjffnjiggcfhcaaGreatDoor.Fl
