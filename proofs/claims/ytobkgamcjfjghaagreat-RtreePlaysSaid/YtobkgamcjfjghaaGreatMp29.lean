/-
  The walk of the statement RtreePlays: whatever order, deeds, point and window it is given, it returns true, and memory that was there is left as it was.
-/
import Derived.Test.YtobkgamcjfjghaaGreatMp28
import Derived.Test.YtobkgamcjfjghaaGreatMp01
import Derived.BigQuiet
import Derived.IntWalk
import Derived.Deep.CutRange
import Derived.Laws.AppendOwnNone
namespace Go.Proofs.YtobkgamcjfjghaaGreat.Rt
open Go.RowKit Go.Joins Go.Maps Go.Proofs.YtobkgamcjfjghaaGreat.Pt Go.Proofs.YtobkgamcjfjghaaGreat.Rc Go.Proofs.YtobkgamcjfjghaaGreat.Rs
set_option linter.unusedVariables false
set_option linter.unusedSimpArgs false
set_option maxHeartbeats 8000000
set_option maxRecDepth 100000
def PlsR (w : World) (l : List Ded) (t o : Nat) (v vi : Value) (wr : World) : Prop := ∃ (j : Nat) (m : List (R4 × Int)) (F : Nat → Prop), vi = .int .i64 (j : Int) ∧ j ≤ l.length ∧ Pl w t o j m F v wr
/-- What a round's deed leaves: the list and the index have the same items; the deed's item lies where it was laid. -/
def PlC (w : World) (t o j x : Nat) (p : R4 × Int) (v : Value) (W : World) : Prop := ∃ (m : List (R4 × Int)) (F : Nat → Prop), Pl w t o j m F v W ∧ ¬ F x ∧ W.heap[x]? = some (.cells (itC p).toArray 36 (0, 0))
theorem it_cells {W : World} {b : Nat} {p : R4 × Int} {ty : TypeId} (h : W.heap[b]? = some (.cells (itC p).toArray ty (0, 0))) : W.cell? ⟨b, 0, none⟩ = some (.int .i64 p.1.x1) ∧ W.cell? ⟨b, 1, none⟩ = some (.int .i64 p.1.y1) ∧ W.cell? ⟨b, 2, none⟩ = some (.int .i64 p.1.x2) ∧ W.cell? ⟨b, 3, none⟩ = some (.int .i64 p.1.y2) ∧ W.cell? ⟨b, 4, none⟩ = some (.int .i64 p.2) := by
  refine ⟨?_, ?_, ?_, ?_, ?_⟩ <;> simp [World.cell?, h, itC]
theorem flat_take : ∀ (m : List (R4 × Int)) (k : Nat), (m.take k).flatMap itC = (m.flatMap itC).take (k * 5)
  | [], k => by simp
  | a :: m, 0 => by simp
  | a :: m, k + 1 => by
    rw [List.take_succ_cons, List.flatMap_cons, List.flatMap_cons, flat_take m k, show (k + 1) * 5 = (itC a).length + k * 5 by show _ = 5 + k * 5; omega, List.take_length_add_append]
theorem flat_drop : ∀ (m : List (R4 × Int)) (k : Nat), (m.drop k).flatMap itC = (m.flatMap itC).drop (k * 5)
  | [], k => by simp
  | a :: m, 0 => by simp
  | a :: m, k + 1 => by
    rw [List.drop_succ_cons, List.flatMap_cons, flat_drop m k, show (k + 1) * 5 = (itC a).length + k * 5 by show _ = 5 + k * 5; omega, List.drop_length_add_append]
/-- An append of all of a row, be it nil or not, to a row of the call's own. -/
theorem wp_append_row {P : Program} {w : World} {o : Oper} {a : Act} {K : Act → World → Prop} {Q : Exit → Act → World → Prop} (s x : Operand) (t : TypeId)
    (ho : o.op = .call { callee := .builtin .append, args := #[s, x], argTypes := #[t, t] })
    (base : Nat) (e : TypeId) (i : TypeInfo) (z : Value) (size bytes : Nat) (ht : P.underlying t = some (.slice e)) (hi : P.info? e = some i) (hz : i.zero = some z)
    (hsize : i.size = size) (hby : i.bytes = bytes) (hzs : z.cells.size = size) (hsz : 0 < size)
    (v : Value) (n : Nat) (xs : List Value) (hs : a.eval s = v) (hown : w.ownsRow base e size v n xs)
    (base2 : Nat) (src : Value) (m : Nat) (ys : List Value) (hx : a.eval x = src) (hsrc : w.ownsRow base2 e size src m ys) (h1 : ∀ u ∈ ys, u.oneCell' = true)
    (h63 : n + m ≤ maxLen) (hbytes : (n + m) * bytes ≤ 140737488355328) (hbase : base ≤ w.heap.size)
    (h : ∀ v' w', w'.ownsRow base e size v' (n + m) (xs ++ ys) → w.grownBy w' v.ownBlock → (v'.ownBlock = v.ownBlock ∨ v'.ownBlock = some w.heap.size) → K (a.put o.dst v') w') : o.wp P a w K Q := by
  rcases hsrc.2 with ⟨rfl, rfl⟩ | ⟨g, cap, cur, rfl, _⟩
  · have hy : ys = [] := List.eq_nil_of_length_eq_zero (by simpa using hsrc.1)
    subst hy
    have hr := run_append_owned_none (P := P) (w := w) base t o.type e i size ht hi v n xs hown
    unfold Oper.wp execOp
    simp only [ho, resolve, invoke, builtin, Sem.run_bind, Sem.run_pure, Result.andThen_ok, List.map_toArray, List.map_cons, List.map_nil, hs, hx, hr]
    exact h v w (by simpa using hown) ⟨rfl, rfl, rfl, Nat.le_refl _, fun _ _ _ => rfl⟩ (Or.inl rfl)
  · exact wp_append_at s x t ho base e i z size bytes ht hi hz hsize hby hzs hsz v n xs hs hown ⟨g, 0, none⟩ m cap ys hx hsrc.1 (fun j u hu => by
      have hj := (List.getElem?_eq_some_iff.1 hu).1
      rw [hsrc.1] at hj
      rw [addr_at, Nat.zero_add, hsrc.cellAt j hj]
      exact hu) h1 h63 hbytes hbase h
theorem below_drewN (w : World) (q : Nat) : Below w.heap.size w (w.drewN q) := by
  have h := Below.refl w.heap.size w
  exact ⟨h.os, h.tape, h.output, h.size, h.block⟩
theorem code_9 (w : World) : Calls Tryz.prog 10 #[.iface 33 (.int .i64 9)] w fun e w' => e = .returned (.int .i64 9) ∧ w = w' := Cn.code_any 9 (by omega) (by omega) w
theorem code_1 (w : World) : Calls Tryz.prog 10 #[.iface 33 (.int .i64 1)] w fun e w' => e = .returned (.int .i64 1) ∧ w = w' := Cn.code_any 1 (by omega) (by omega) w
theorem code_10 (w : World) : Calls Tryz.prog 10 #[.iface 33 (.int .i64 10)] w fun e w' => e = .returned (.int .i64 10) ∧ w = w' := Cn.code_any 10 (by omega) (by omega) w
theorem DdL.later {W W' : World} {A : Option Addr} {l : List Ded} (h : DdL W A l) (hb : Below W.heap.size W W') : DdL W' A l := by
  refine ⟨h.1, fun h0 => ?_⟩
  obtain ⟨g, o, e, hg, hc⟩ := h.2 h0
  refine ⟨g, o, e, Nat.lt_of_lt_of_le hg hb.size, fun k hk => ?_⟩
  obtain ⟨c0, c1, c2, c3, c4, c5⟩ := hc k hk
  exact ⟨cell_later hb c0, cell_later hb c1, cell_later hb c2, cell_later hb c3, cell_later hb c4, cell_later hb c5⟩
theorem plays_any (o : Int) (AA : Option Addr) (l : List Ded) (c : Nat) (px py : Int) (r : R4) (w : World) (hlm : l.length ≤ maxLen) (hA : DdL w AA l) :
    Calls Tryz.prog 3 #[.int .i64 o, .slice AA l.length c, .agg #[.int .i64 px, .int .i64 py], .agg #[.int .i64 r.x1, .int .i64 r.y1, .int .i64 r.x2, .int .i64 r.y2]] w fun e w' => e = .returned (.bool true) ∧ Below w.heap.size w w' := by
  have q1 := eql_argn
  have q2 := eql_nils
  have q3 := neq_nils
  have q4 := tree_some
  have q5 := tree_nil
  have q6 := tree_nnil
  have q7 := tree_nsome
  have q8 := eql_argc
  have q10 := eql_bo
  have q11 := neq_four
  obtain ⟨N, hN⟩ : ∃ N, N = l.length := ⟨_, rfl⟩
  have HN := Lib.hid hN
  rw [← hN] at hlm ⊢
  unfold maxLen at hlm
  obtain ⟨w0, hw0⟩ : ∃ v, v = (w.alloc (.cells #[.int .i64 px, .int .i64 py] 24)).alloc (.cells #[.int .i64 r.x1, .int .i64 r.y1, .int .i64 r.x2, .int .i64 r.y2] 26) := ⟨_, rfl⟩
  have HW0 := Lib.hid hw0
  have B0 := Lib.hid (show Below w.heap.size w w0 by rw [hw0]; exact ((Below.refl _ _).alloc (Nat.le_refl _) _).alloc (by simp) _)
  have BP := Lib.hid (show w0.heap[w.heap.size]? = some (.cells #[.int .i64 px, .int .i64 py] 24 (0, 0)) by rw [hw0]; exact ((MapKept.heap_alloc _ _).2 _ (by simp)).trans (MapKept.heap_alloc w _).1)
  have BR := Lib.hid (show w0.heap[w.heap.size + 1]? = some (.cells (rC r) 26 (0, 0)) by rw [hw0]; have := (MapKept.heap_alloc (w.alloc (.cells #[.int .i64 px, .int .i64 py] 24)) (.cells (rC r) 26)).1; simpa [rC] using this)
  have SZ := Lib.hid (show w0.heap.size = w.heap.size + 2 by rw [hw0]; simp)
  have HA := Lib.hid (hA.later B0.out)
  clear hA hN hw0
  go_enter Tryz.func3, Tryz.ntmps3
  go_wp2_with fail
  rw [← HW0.out]
  refine Calls.mono (up_any w0) ?_
  rintro e w1 ⟨rfl, hb1⟩
  have B1 := Lib.hid hb1
  clear hb1
  go_wp2_with fail
  refine Calls.mono (iy_new o w1) ?_
  rintro e w2 ⟨hb2, ⟨ho, rfl⟩ | ⟨n, t, F, hno, h1, h2, rfl, hx, hF⟩⟩
  · have B2 := Lib.hid (B0.out.trans ((B1.out.trans (hb2.mono B1.out.size)).mono B0.out.size))
    clear hb2
    by_cases ho4 : o < 4
    · go_wp2_with fail
      go_ret
      exact ⟨by simp, B2.out⟩
    · have ho16 : o > 16 := by omega
      go_wp2_with fail
      go_ret
      exact ⟨by simp, B2.out⟩
  · have B2 := Lib.hid (B1.out.trans (hb2.mono B1.out.size))
    have X2 := Lib.hid hx
    have F2 := Lib.hid (show ∀ k, F k → w0.heap.size ≤ k from fun k hk => Nat.le_trans B1.out.size (hF k hk))
    have HNO := Lib.hid hno
    have ho4 : ¬ o < 4 := by omega
    have ho16 : ¬ o > 16 := by omega
    clear hb2 hx hF hno
    unfold ptr
    by_cases hbad : N > 250
    · have hzz : (N : Int) > 250 := by omega
      have B3 := Lib.hid (B0.out.trans (B2.out.mono B0.out.size))
      go_wp2_with fail
      go_ret
      exact ⟨by simp, B3.out⟩
    · have hN250 : N ≤ 250 := by omega
      have hzz : ¬ (N : Int) > 250 := by omega
      obtain ⟨i0, hi0, hz0, hz1, hz2⟩ := info_parts infoIt
      have R0 := Lib.hid (show PlsR w0 l t n (.slice none 0 0) (.int .i64 (0 : Nat)) w2 from ⟨0, [], F, rfl, Nat.zero_le _, ⟨X2.out, World.ownsRow_nil _ _ _ _, (fun g hg => by cases hg), F2.out, B2.out, Nat.zero_le _⟩⟩)
      have hbe := fun W => run_emptyT W hi0
      clear hbad
      go_wp2_with fail
      go_loopw [12, 13] (fun v vi wr => PlsR w0 l t n v vi wr) (fun _ vi _ => N - (intOf vi).toNat)
      case atStart => exact R0.out
      case round =>
        clear R0
        obtain ⟨j, m, F', rfl, hj, hFi⟩ := hrel
        have FI := Lib.hid hFi
        rw [← HN.out] at hj
        clear hFi
        by_cases hlt : j < N
        · have hlz : (j : Int) < (N : Int) := by omega
          have hj0 : (0 : Int) ≤ (j : Int) := by omega
          have hjl : j < l.length := by rw [← HN.out]; exact hlt
          obtain ⟨g, off, eA, hg, hc⟩ := HA.out.2 (by omega)
          subst eA
          obtain ⟨z0, z1, z2, z3, z4, z5⟩ := hc j hjl
          have a0 := cell_later FI.out.below z0
          have a1 := cell_later FI.out.below z1
          have a2 := cell_later FI.out.below z2
          have a3 := cell_later FI.out.below z3
          have a4 := cell_later FI.out.below z4
          have a5 := cell_later FI.out.below z5
          obtain ⟨d, hd⟩ : ∃ d, d = l[j] := ⟨_, rfl⟩
          have hidw : wf64 d.id := HA.out.1 d (by rw [hd]; exact List.getElem_mem hjl)
          rw [← hd] at a0 a1 a2 a3 a4 a5
          clear hd z0 z1 z2 z3 z4 z5 hc
          obtain ⟨del, r', id⟩ := d
          dsimp only at a0 a1 a2 a3 a4 a5 hidw
          have HID := Lib.hid hidw
          have HJL := Lib.hid (show j + 1 ≤ l.length from hjl)
          obtain ⟨wa, hwa⟩ : ∃ v, v = wr.alloc (.cells #[.int .i64 r'.x1, .int .i64 r'.y1, .int .i64 r'.x2, .int .i64 r'.y2, .int .i64 id] 36) := ⟨_, rfl⟩
          have HWA := Lib.hid hwa
          have BA := Lib.hid (show Below wr.heap.size wr wa by rw [hwa]; exact (Below.refl _ _).alloc (Nat.le_refl _) _)
          have XA := Lib.hid (show wa.heap[wr.heap.size]? = some (.cells (itC (r', id)).toArray 36 (0, 0)) by rw [hwa]; exact (MapKept.heap_alloc wr _).1)
          have FA := Lib.hid (FI.out.later BA.out)
          have HXF := Lib.hid (show ¬ F' wr.heap.size from fun hf => absurd (FI.out.iy.lt hf) (Nat.lt_irrefl _))
          have DA := Lib.hid (cell_later BA.out a0)
          have CP := Lib.hid (place_any _ m id wa FA.out.rowT (Nat.le_trans FA.out.few (by omega)))
          obtain ⟨pa, hpa⟩ : ∃ x, x = plI (plc m id) := ⟨_, rfl⟩
          rw [← hpa] at CP
          have HPA := Lib.hid hpa
          clear hwa hpa hidw hjl hlt
          go_wp2_with fail
          rw [← HWA.out]
          refine Calls.mono CP.out ?_
          rintro e w4 ⟨rfl, hb4⟩
          have F4 := Lib.hid (FA.out.later hb4)
          have X4 := Lib.hid ((hb4.block _ (Array.getElem?_eq_some_iff.1 XA.out).1).trans XA.out)
          have d0 := cell_later hb4 DA.out
          obtain ⟨y0, y1, y2, y3, y4⟩ := it_cells X4.out
          dsimp only at y0 y1 y2 y3 y4
          clear hb4 CP a0 a1 a2 a3 a4 a5
          go_upto_if 86 with fail
          go_cut [12] from 67 to 172 (fun s12 wx => PlC w0 t n (j + 1) wr.heap.size (r', id) s12 wx)
          case first =>
            cases del with
            | true =>
              have CD := Lib.hid (iy_del id F4.out.iy h1 h2 HID.out (Nat.le_trans F4.out.few (by omega)))
              unfold ptr at CD
              go_wp2_with fail
              refine Calls.mono CD.out ?_
              rintro e w5 (⟨hno, rfl, hw5⟩ | ⟨hin, rfl, F5, l5, hx5, hch, hpm⟩)
              · subst hw5
                have hp : pa = -1 := by rw [HPA.out, plc_none.2 hno]; rfl
                subst hp
                clear hno CD
                go_wp2_with fail
                refine Calls.mono (code_9 _) ?_
                rintro e w6 ⟨rfl, rfl⟩
                go_wp2_with fail
                go_roundw
                case rel => first | exact ⟨j + 1, m, F', by go_num, HJL.out, F4.out.more⟩ | ((repeat apply Exists.intro); exact ⟨⟨j + 1, m, F', by go_num, HJL.out, F4.out.more⟩, rfl⟩)
                case measure => simp [intOf]; omega
              · obtain ⟨k, hk⟩ := plc_has hin
                obtain ⟨hkm, hki⟩ := plc_some hk
                have hpk : pa = (k : Int) := by rw [HPA.out, hk]; rfl
                subst hpk
                have LP := Lib.hid (out_perm hkm (hpm _ (List.getElem_mem hkm) hki))
                have PC := Lib.hid (F4.out.chg hx5 hch)
                obtain ⟨hbx, hnx⟩ := hch.block (Array.getElem?_eq_some_iff.1 X4.out).1 HXF.out
                have X5 := Lib.hid (hbx.trans X4.out)
                have NX5 := Lib.hid hnx
                obtain ⟨w9, hw9⟩ : ∃ v, v = w5 := ⟨_, rfl⟩
                subst hw9
                obtain ⟨mn, hmn⟩ : ∃ x, x = m.length := ⟨_, rfl⟩
                have HM := Lib.hid hmn
                have hmn250 : mn ≤ 250 := by have := F4.out.few; omega
                obtain ⟨gt, ct, e9, hmc, hct⟩ : ∃ g c, u12 = .slice (some ⟨g, 0, none⟩) mn c ∧ mn ≤ c ∧ c ≤ maxLen := by
                  rcases PC.out.2.1.2 with ⟨e, _⟩ | ⟨g2, c2, cur, e, _, _, h5, h6, _⟩
                  · omega
                  · exact ⟨g2, c2, by rw [hmn]; exact e, by rw [hmn]; exact h5, h6⟩
                subst e9
                have R9m := Lib.hid (show w9.ownsRow w0.heap.size 36 5 (.slice (some ⟨gt, 0, none⟩) mn ct) mn (m.flatMap itC) by have := PC.out.2.1; rw [← hmn] at this; exact this)
                have hgt9 : gt < w9.heap.size := (R9m.out.lt gt rfl).2
                obtain ⟨k1, hk1⟩ : ∃ k1, k1 = k + 1 := ⟨_, rfl⟩
                have hk1z : (k : Int) + 1 = (k1 : Int) := by omega
                have hkmn : k < mn := by omega
                have hk1m : k1 ≤ mn := by omega
                have hkct : k ≤ ct := by omega
                have hk0 : (0 : Int) ≤ (k : Int) := by omega
                have hk00 : ¬ (k : Int) < 0 := by omega
                have HK1 := Lib.hid hk1
                have hw1 : IntKind.i64.wrap (k1 : Int) = (k1 : Int) := IntWalk.i64_in _ (by omega)
                have hk1p : (0 : Int) ≤ (k1 : Int) := by omega
                have hk1l : (k1 : Int) ≤ (mn : Int) := by omega
                clear hk1 hmn hki hkm hk hin hx5 hch hpm hbx hnx CD
                by_cases hcm : ct = k1
                · have hmk : mn = k1 := by omega
                  subst hmk
                  subst hcm
                  go_wp2_with fail
                  refine wp_region_held_drew (S := (fun W : World => w9.heap.size ≤ W.heap.size)) (by kernel_rfl) (Nat.le_refl _) (fun hHeld => ?_)
                  refine wpAnyH_take (i := 1) (v := ?vB1) rfl (by kernel_rfl) (by kernel_rfl) (by kernel_rfl) (fun _ _ _ h => h) (Or.inl ⟨by rfl, ?yB1⟩) hHeld ?rB1
                  case yB1 => (intro W hSw; simp only [List.getElem_toArray, List.getElem_cons_succ, List.getElem_cons_zero]; go_simp; try (with_reducible rfl))
                  simp only [List.getElem_toArray, List.getElem_cons_succ, List.getElem_cons_zero, Act.put, List.setIfInBounds_toArray, List.set_cons_zero, List.set_cons_succ]
                  refine wpAnyH_take (i := 2) (v := ?vB2) rfl (by kernel_rfl) (by kernel_rfl) (by kernel_rfl) (fun _ _ _ h => h) (Or.inl ⟨by rfl, ?yB2⟩) hHeld ?rB2
                  case yB2 => (intro W hSw; simp only [List.getElem_toArray, List.getElem_cons_succ, List.getElem_cons_zero]; go_simp; try (with_reducible rfl))
                  simp only [List.getElem_toArray, List.getElem_cons_succ, List.getElem_cons_zero, Act.put, List.setIfInBounds_toArray, List.set_cons_zero, List.set_cons_succ]
                  refine wpAnyH_take (i := 3) (v := ?vB3) rfl (by kernel_rfl) (by kernel_rfl) (by kernel_rfl) (fun _ _ _ h => h) (Or.inl ⟨by rfl, ?yB3⟩) hHeld ?rB3
                  case yB3 => (intro W hSw; simp only [List.getElem_toArray, List.getElem_cons_succ, List.getElem_cons_zero]; go_simp; try (with_reducible rfl))
                  simp only [List.getElem_toArray, List.getElem_cons_succ, List.getElem_cons_zero, Act.put, List.setIfInBounds_toArray, List.set_cons_zero, List.set_cons_succ]
                  refine wpAnyH_take (i := 5) (v := ?vB5) rfl (by kernel_rfl) (by kernel_rfl) (by kernel_rfl) (fun _ _ _ h => h) (Or.inl ⟨by rfl, ?yB5⟩) hHeld ?rB5
                  case yB5 => (intro W hSw; simp only [List.getElem_toArray, List.getElem_cons_succ, List.getElem_cons_zero]; go_simp; try (with_reducible rfl))
                  simp only [List.getElem_toArray, List.getElem_cons_succ, List.getElem_cons_zero, Act.put, List.setIfInBounds_toArray, List.set_cons_zero, List.set_cons_succ]
                  refine wpAnyH_take (i := 6) (v := ?vB6) rfl (by kernel_rfl) (by kernel_rfl) (by kernel_rfl) (fun _ _ _ h => h) (Or.inl ⟨by rfl, ?yB6⟩) hHeld ?rB6
                  case yB6 => (intro W hSw; simp only [List.getElem_toArray, List.getElem_cons_succ, List.getElem_cons_zero]; go_simp; try (with_reducible rfl))
                  simp only [List.getElem_toArray, List.getElem_cons_succ, List.getElem_cons_zero, Act.put, List.setIfInBounds_toArray, List.set_cons_zero, List.set_cons_succ]
                  refine wpAnyH_take (i := 7) (v := ?vB7) rfl (by kernel_rfl) (by kernel_rfl) (by kernel_rfl) (fun _ _ _ h => h) (Or.inl ⟨by rfl, ?yB7⟩) hHeld ?rB7
                  case yB7 => (intro W hSw; simp only [List.getElem_toArray, List.getElem_cons_succ, List.getElem_cons_zero]; go_simp; try (with_reducible rfl))
                  simp only [List.getElem_toArray, List.getElem_cons_succ, List.getElem_cons_zero, Act.put, List.setIfInBounds_toArray, List.set_cons_zero, List.set_cons_succ]
                  refine wpAnyH_take (i := 8) (v := ?vB8) rfl (by kernel_rfl) (by kernel_rfl) (by kernel_rfl) (fun _ _ _ h => h) (Or.inl ⟨by rfl, ?yB8⟩) hHeld ?rB8
                  case yB8 => (intro W hSw; simp only [List.getElem_toArray, List.getElem_cons_succ, List.getElem_cons_zero]; go_simp; try (with_reducible rfl))
                  simp only [List.getElem_toArray, List.getElem_cons_succ, List.getElem_cons_zero, Act.put, List.setIfInBounds_toArray, List.set_cons_zero, List.set_cons_succ]
                  refine wpAnyH_ready (rs := [0]) (by kernel_rfl) (by simp) (AllReadyH.cons rfl (fun K hK => ?_) AllReadyH.nil)
                  simp only [List.getElem_toArray, List.getElem_cons_succ, List.getElem_cons_zero]
                  go_simp
                  obtain ⟨wA, hwA⟩ : ∃ v, v = (w9.alloc (.cells #[] 36)).drew := ⟨_, rfl⟩
                  rw [← hwA]
                  have BA9 := Lib.hid (show Below w9.heap.size w9 wA by rw [hwA]; exact ((Below.refl _ _).alloc (Nat.le_refl _) _).drew)
                  have EA := Lib.hid (show wA.ownsRow w9.heap.size 36 5 (.slice (some ⟨w9.heap.size, 0, none⟩) 0 0) 0 [] by rw [hwA]; exact (own_emptyT w9).drew)
                  have RA := Lib.hid (show wA.ownsRow w0.heap.size 36 5 (.slice (some ⟨gt, 0, none⟩) ct ct) ct (m.flatMap itC) by rw [hwA]; exact (R9m.out.alloc _).drew)
                  clear hwA
                  have SA := Lib.hid BA9.out.size
                  obtain ⟨X7', hX7⟩ : ∃ X, X = (m.take k).flatMap itC := ⟨_, rfl⟩
                  have LN7 := Lib.hid (show X7'.length = k * 5 by rw [hX7, flat_len, List.length_take]; have := HM.out; omega)
                  have NW7 := Lib.hid (show ∀ i u, X7'[i]? = some u → wA.cell? ((⟨gt, 0, none⟩ : Addr).add i) = some u from fun i u hu => by
                    have hi := (List.getElem?_eq_some_iff.1 hu).1
                    rw [LN7.out] at hi
                    rw [addr_at, Nat.zero_add, RA.out.cellAt i (by omega)]
                    rw [hX7, flat_take, List.getElem?_take, if_pos (by omega)] at hu
                    exact hu)
                  have ON7 := Lib.hid (show ∀ u ∈ X7', u.oneCell' = true by rw [hX7]; exact flat_one _)
                  have HX7 := Lib.hid hX7
                  clear hX7
                  refine hK.out _ _ (by exact SA.out) (fun hHeld1 => ?_)
                  clear hK K hHeld
                  have hHeld := hHeld1; clear hHeld1
                  try simp only [List.getElem_toArray, List.getElem_cons_succ, List.getElem_cons_zero, Act.put, List.setIfInBounds_toArray, List.set_cons_zero, List.set_cons_succ]
                  refine wpAnyH_ready (rs := [4]) (by kernel_rfl) (by simp) (AllReadyH.cons rfl (fun K hK => ?_) AllReadyH.nil)
                  simp only [List.getElem_toArray, List.getElem_cons_succ, List.getElem_cons_zero]
                  refine wp_append_at (.tmp 98) (.tmp 101) 34 rfl w9.heap.size 36 i0 (.agg #[.int .i64 0, .int .i64 0, .int .i64 0, .int .i64 0, .int .i64 0]) 5 40 Tryz.underlying34 hi0 hz0 hz1 hz2 rfl (by decide) (.slice (some ⟨w9.heap.size, 0, none⟩) 0 0) 0 [] rfl EA.out ⟨gt, 0, none⟩ k ct X7' rfl LN7.out NW7.out ON7.out (by unfold maxLen; omega) (by omega) SA.out ?_
                  intro v10 wB hown10 hg10 ho10
                  have SB := Lib.hid (Nat.le_trans SA.out hg10.size)
                  have R10 := Lib.hid (show wB.ownsRow w9.heap.size 36 5 v10 k X7' by simpa using hown10)
                  have RB := Lib.hid (show wB.ownsRow w0.heap.size 36 5 (.slice (some ⟨gt, 0, none⟩) ct ct) ct (m.flatMap itC) from RA.out.kept hg10 (by right; simp [Value.ownBlock]; omega))
                  have BB9 := Lib.hid (show Below w9.heap.size w9 wB from BA9.out.grown hg10 BA9.out.size (fun g' hg' => (EA.out.lt g' hg').1))
                  obtain ⟨X9', hX9⟩ : ∃ X, X = (m.drop ct).flatMap itC := ⟨_, rfl⟩
                  have LN9 := Lib.hid (show X9'.length = (ct - ct) * 5 by rw [hX9, flat_len, List.length_drop]; have := HM.out; omega)
                  have NW9 := Lib.hid (show ∀ i u, X9'[i]? = some u → wB.cell? ((⟨gt, ct * 5, none⟩ : Addr).add i) = some u from fun i u hu => by
                    have hi := (List.getElem?_eq_some_iff.1 hu).1
                    rw [LN9.out] at hi
                    rw [addr_at, RB.out.cellAt (ct * 5 + i) (by omega)]
                    rw [hX9, flat_drop, List.getElem?_drop] at hu
                    exact hu)
                  have ON9 := Lib.hid (show ∀ u ∈ X9', u.oneCell' = true by rw [hX9]; exact flat_one _)
                  have HX9 := Lib.hid hX9
                  clear hX9 hown10 hg10 ho10
                  refine hK.out _ _ (by exact SB.out) (fun hHeld1 => ?_)
                  clear hK K hHeld
                  have hHeld := hHeld1; clear hHeld1
                  try simp only [List.getElem_toArray, List.getElem_cons_succ, List.getElem_cons_zero, Act.put, List.setIfInBounds_toArray, List.set_cons_zero, List.set_cons_succ]
                  refine wpAnyH_ready (rs := [9]) (by kernel_rfl) (by simp) (AllReadyH.cons rfl (fun K hK => ?_) AllReadyH.nil)
                  simp only [List.getElem_toArray, List.getElem_cons_succ, List.getElem_cons_zero]
                  refine wp_append_at (.tmp 102) (.tmp 106) 34 rfl w9.heap.size 36 i0 (.agg #[.int .i64 0, .int .i64 0, .int .i64 0, .int .i64 0, .int .i64 0]) 5 40 Tryz.underlying34 hi0 hz0 hz1 hz2 rfl (by decide) v10 k X7' rfl R10.out ⟨gt, 0, none⟩ 0 0 X9' rfl (by rw [LN9.out]; simp) (fun i u hu => absurd (List.getElem?_eq_some_iff.1 hu).1 (by rw [LN9.out]; simp)) ON9.out (by unfold maxLen; omega) (by omega) SB.out ?_
                  intro v12 w12 hown12 hg12 ho12
                  have FI12 := Lib.hid (show PlC w0 t n (j + 1) wr.heap.size (r', id) v12 w12 from by
                    have nF : ∀ g', w9.heap.size ≤ g' → ¬ F5 g' := fun g' hg' hf => absurd (PC.out.1.lt hf) (by omega)
                    have iyB : Iy F5 t n l5 wB := PC.out.1.later BB9.out
                    have e7 : X7' ++ X9' = (m.take k ++ m.drop (k + 1)).flatMap itC := by rw [HX7.out, HX9.out, HK1.out, List.flatMap_append]
                    have hln : (m.take k ++ m.drop (k + 1)).length = k + 0 := by rw [List.length_append, List.length_take, List.length_drop]; have := HM.out; have := HK1.out; omega
                    refine ⟨m.take k ++ m.drop (k + 1), F5, ⟨(iyB.grown hg12 (fun g' hg' => nF g' (R10.out.lt g' hg').1)).perm LP.out, ?_, fun g' hg' => nF g' ?_, PC.out.2.2.2.1, (PC.out.2.2.2.2.trans (BB9.out.mono PC.out.2.2.2.2.size)).grown hg12 (Nat.le_trans PC.out.2.2.2.2.size SB.out) (fun g' hg' => Nat.le_trans PC.out.2.2.2.2.size (R10.out.lt g' hg').1), ?_⟩, NX5.out, ?_⟩
                    · have h1 : w12.ownsRow w9.heap.size 36 5 v12 (k + 0) (X7' ++ X9') := hown12
                      rw [← hln, e7] at h1
                      exact own_baseT h1 PC.out.2.2.2.2.size
                    · rcases ho12 with h | h
                      · rw [h] at hg'; exact (R10.out.lt g' hg').1
                      · rw [h] at hg'
                        have : wB.heap.size = g' := by simpa using hg'
                        have := SB.out
                        omega
                    · rw [hln]; have := F4.out.few; have := HM.out; omega
                    · have hlt := (Array.getElem?_eq_some_iff.1 X5.out).1
                      have h1 := (BB9.out.block _ hlt).trans X5.out
                      exact (hg12.block _ (Array.getElem?_eq_some_iff.1 h1).1 (fun e => by have := (R10.out.lt _ e.symm).1; omega)).trans h1)
                  have SC := Lib.hid (Nat.le_trans SB.out hg12.size)
                  clear hown12 hg12 ho12
                  refine hK.out _ _ (by exact SC.out) (fun hHeld1 => ?_)
                  clear hK K hHeld
                  have hHeld := hHeld1; clear hHeld1
                  try simp only [List.getElem_toArray, List.getElem_cons_succ, List.getElem_cons_zero, Act.put, List.setIfInBounds_toArray, List.set_cons_zero, List.set_cons_succ]
                  refine wpAnyH_take (i := 10) (v := ?vBz10) rfl (by kernel_rfl) (by kernel_rfl) (by kernel_rfl) (fun _ _ _ h => h) (Or.inl ⟨by rfl, ?yBz10⟩) hHeld ?rBz10
                  case yBz10 => (intro W hSw; simp only [List.getElem_toArray, List.getElem_cons_succ, List.getElem_cons_zero]; go_simp; try (with_reducible rfl))
                  simp only [List.getElem_toArray, List.getElem_cons_succ, List.getElem_cons_zero, Act.put, List.setIfInBounds_toArray, List.set_cons_zero, List.set_cons_succ]
                  clear hHeld
                  refine wpAnyH_done (by kernel_rfl) ?_ _
                  go_wp2_with fail
                  go_meet
                  exact FI12.out
                · have hkc : k1 ≤ ct := by omega
                  go_wp2_with fail
                  refine wp_region_held_drew (S := (fun W : World => w9.heap.size ≤ W.heap.size)) (by kernel_rfl) (Nat.le_refl _) (fun hHeld => ?_)
                  refine wpAnyH_take (i := 1) (v := ?vA1) rfl (by kernel_rfl) (by kernel_rfl) (by kernel_rfl) (fun _ _ _ h => h) (Or.inl ⟨by rfl, ?yA1⟩) hHeld ?rA1
                  case yA1 => (intro W hSw; simp only [List.getElem_toArray, List.getElem_cons_succ, List.getElem_cons_zero]; go_simp; try (with_reducible rfl))
                  simp only [List.getElem_toArray, List.getElem_cons_succ, List.getElem_cons_zero, Act.put, List.setIfInBounds_toArray, List.set_cons_zero, List.set_cons_succ]
                  refine wpAnyH_take (i := 2) (v := ?vA2) rfl (by kernel_rfl) (by kernel_rfl) (by kernel_rfl) (fun _ _ _ h => h) (Or.inl ⟨by rfl, ?yA2⟩) hHeld ?rA2
                  case yA2 => (intro W hSw; simp only [List.getElem_toArray, List.getElem_cons_succ, List.getElem_cons_zero]; go_simp; try (with_reducible rfl))
                  simp only [List.getElem_toArray, List.getElem_cons_succ, List.getElem_cons_zero, Act.put, List.setIfInBounds_toArray, List.set_cons_zero, List.set_cons_succ]
                  refine wpAnyH_take (i := 3) (v := ?vA3) rfl (by kernel_rfl) (by kernel_rfl) (by kernel_rfl) (fun _ _ _ h => h) (Or.inl ⟨by rfl, ?yA3⟩) hHeld ?rA3
                  case yA3 => (intro W hSw; simp only [List.getElem_toArray, List.getElem_cons_succ, List.getElem_cons_zero]; go_simp; try (with_reducible rfl))
                  simp only [List.getElem_toArray, List.getElem_cons_succ, List.getElem_cons_zero, Act.put, List.setIfInBounds_toArray, List.set_cons_zero, List.set_cons_succ]
                  refine wpAnyH_take (i := 5) (v := ?vA5) rfl (by kernel_rfl) (by kernel_rfl) (by kernel_rfl) (fun _ _ _ h => h) (Or.inl ⟨by rfl, ?yA5⟩) hHeld ?rA5
                  case yA5 => (intro W hSw; simp only [List.getElem_toArray, List.getElem_cons_succ, List.getElem_cons_zero]; go_simp; try (with_reducible rfl))
                  simp only [List.getElem_toArray, List.getElem_cons_succ, List.getElem_cons_zero, Act.put, List.setIfInBounds_toArray, List.set_cons_zero, List.set_cons_succ]
                  refine wpAnyH_take (i := 6) (v := ?vA6) rfl (by kernel_rfl) (by kernel_rfl) (by kernel_rfl) (fun _ _ _ h => h) (Or.inl ⟨by rfl, ?yA6⟩) hHeld ?rA6
                  case yA6 => (intro W hSw; simp only [List.getElem_toArray, List.getElem_cons_succ, List.getElem_cons_zero]; go_simp; try (with_reducible rfl))
                  simp only [List.getElem_toArray, List.getElem_cons_succ, List.getElem_cons_zero, Act.put, List.setIfInBounds_toArray, List.set_cons_zero, List.set_cons_succ]
                  refine wpAnyH_take (i := 7) (v := ?vA7) rfl (by kernel_rfl) (by kernel_rfl) (by kernel_rfl) (fun _ _ _ h => h) (Or.inl ⟨by rfl, ?yA7⟩) hHeld ?rA7
                  case yA7 => (intro W hSw; simp only [List.getElem_toArray, List.getElem_cons_succ, List.getElem_cons_zero]; go_simp; try (with_reducible rfl))
                  simp only [List.getElem_toArray, List.getElem_cons_succ, List.getElem_cons_zero, Act.put, List.setIfInBounds_toArray, List.set_cons_zero, List.set_cons_succ]
                  refine wpAnyH_take (i := 8) (v := ?vA8) rfl (by kernel_rfl) (by kernel_rfl) (by kernel_rfl) (fun _ _ _ h => h) (Or.inl ⟨by rfl, ?yA8⟩) hHeld ?rA8
                  case yA8 => (intro W hSw; simp only [List.getElem_toArray, List.getElem_cons_succ, List.getElem_cons_zero]; go_simp; try (with_reducible rfl))
                  simp only [List.getElem_toArray, List.getElem_cons_succ, List.getElem_cons_zero, Act.put, List.setIfInBounds_toArray, List.set_cons_zero, List.set_cons_succ]
                  refine wpAnyH_ready (rs := [0]) (by kernel_rfl) (by simp) (AllReadyH.cons rfl (fun K hK => ?_) AllReadyH.nil)
                  simp only [List.getElem_toArray, List.getElem_cons_succ, List.getElem_cons_zero]
                  go_simp
                  obtain ⟨wA, hwA⟩ : ∃ v, v = (w9.alloc (.cells #[] 36)).drew := ⟨_, rfl⟩
                  rw [← hwA]
                  have BA9 := Lib.hid (show Below w9.heap.size w9 wA by rw [hwA]; exact ((Below.refl _ _).alloc (Nat.le_refl _) _).drew)
                  have EA := Lib.hid (show wA.ownsRow w9.heap.size 36 5 (.slice (some ⟨w9.heap.size, 0, none⟩) 0 0) 0 [] by rw [hwA]; exact (own_emptyT w9).drew)
                  have RA := Lib.hid (show wA.ownsRow w0.heap.size 36 5 (.slice (some ⟨gt, 0, none⟩) mn ct) mn (m.flatMap itC) by rw [hwA]; exact (R9m.out.alloc _).drew)
                  clear hwA
                  have SA := Lib.hid BA9.out.size
                  obtain ⟨X7', hX7⟩ : ∃ X, X = (m.take k).flatMap itC := ⟨_, rfl⟩
                  have LN7 := Lib.hid (show X7'.length = k * 5 by rw [hX7, flat_len, List.length_take]; have := HM.out; omega)
                  have NW7 := Lib.hid (show ∀ i u, X7'[i]? = some u → wA.cell? ((⟨gt, 0, none⟩ : Addr).add i) = some u from fun i u hu => by
                    have hi := (List.getElem?_eq_some_iff.1 hu).1
                    rw [LN7.out] at hi
                    rw [addr_at, Nat.zero_add, RA.out.cellAt i (by omega)]
                    rw [hX7, flat_take, List.getElem?_take, if_pos (by omega)] at hu
                    exact hu)
                  have ON7 := Lib.hid (show ∀ u ∈ X7', u.oneCell' = true by rw [hX7]; exact flat_one _)
                  have HX7 := Lib.hid hX7
                  clear hX7
                  refine hK.out _ _ (by exact SA.out) (fun hHeld1 => ?_)
                  clear hK K hHeld
                  have hHeld := hHeld1; clear hHeld1
                  try simp only [List.getElem_toArray, List.getElem_cons_succ, List.getElem_cons_zero, Act.put, List.setIfInBounds_toArray, List.set_cons_zero, List.set_cons_succ]
                  refine wpAnyH_ready (rs := [4]) (by kernel_rfl) (by simp) (AllReadyH.cons rfl (fun K hK => ?_) AllReadyH.nil)
                  simp only [List.getElem_toArray, List.getElem_cons_succ, List.getElem_cons_zero]
                  refine wp_append_at (.tmp 98) (.tmp 101) 34 rfl w9.heap.size 36 i0 (.agg #[.int .i64 0, .int .i64 0, .int .i64 0, .int .i64 0, .int .i64 0]) 5 40 Tryz.underlying34 hi0 hz0 hz1 hz2 rfl (by decide) (.slice (some ⟨w9.heap.size, 0, none⟩) 0 0) 0 [] rfl EA.out ⟨gt, 0, none⟩ k ct X7' rfl LN7.out NW7.out ON7.out (by unfold maxLen; omega) (by omega) SA.out ?_
                  intro v10 wB hown10 hg10 ho10
                  have SB := Lib.hid (Nat.le_trans SA.out hg10.size)
                  have R10 := Lib.hid (show wB.ownsRow w9.heap.size 36 5 v10 k X7' by simpa using hown10)
                  have RB := Lib.hid (show wB.ownsRow w0.heap.size 36 5 (.slice (some ⟨gt, 0, none⟩) mn ct) mn (m.flatMap itC) from RA.out.kept hg10 (by right; simp [Value.ownBlock]; omega))
                  have BB9 := Lib.hid (show Below w9.heap.size w9 wB from BA9.out.grown hg10 BA9.out.size (fun g' hg' => (EA.out.lt g' hg').1))
                  obtain ⟨X9', hX9⟩ : ∃ X, X = (m.drop k1).flatMap itC := ⟨_, rfl⟩
                  have LN9 := Lib.hid (show X9'.length = (mn - k1) * 5 by rw [hX9, flat_len, List.length_drop]; have := HM.out; omega)
                  have NW9 := Lib.hid (show ∀ i u, X9'[i]? = some u → wB.cell? ((⟨gt, k1 * 5, none⟩ : Addr).add i) = some u from fun i u hu => by
                    have hi := (List.getElem?_eq_some_iff.1 hu).1
                    rw [LN9.out] at hi
                    rw [addr_at, RB.out.cellAt (k1 * 5 + i) (by omega)]
                    rw [hX9, flat_drop, List.getElem?_drop] at hu
                    exact hu)
                  have ON9 := Lib.hid (show ∀ u ∈ X9', u.oneCell' = true by rw [hX9]; exact flat_one _)
                  have HX9 := Lib.hid hX9
                  clear hX9 hown10 hg10 ho10
                  refine hK.out _ _ (by exact SB.out) (fun hHeld1 => ?_)
                  clear hK K hHeld
                  have hHeld := hHeld1; clear hHeld1
                  try simp only [List.getElem_toArray, List.getElem_cons_succ, List.getElem_cons_zero, Act.put, List.setIfInBounds_toArray, List.set_cons_zero, List.set_cons_succ]
                  refine wpAnyH_ready (rs := [9]) (by kernel_rfl) (by simp) (AllReadyH.cons rfl (fun K hK => ?_) AllReadyH.nil)
                  simp only [List.getElem_toArray, List.getElem_cons_succ, List.getElem_cons_zero]
                  refine wp_append_at (.tmp 102) (.tmp 106) 34 rfl w9.heap.size 36 i0 (.agg #[.int .i64 0, .int .i64 0, .int .i64 0, .int .i64 0, .int .i64 0]) 5 40 Tryz.underlying34 hi0 hz0 hz1 hz2 rfl (by decide) v10 k X7' rfl R10.out ⟨gt, k1 * 5, none⟩ (mn - k1) (ct - k1) X9' rfl LN9.out NW9.out ON9.out (by unfold maxLen; omega) (by omega) SB.out ?_
                  intro v12 w12 hown12 hg12 ho12
                  have FI12 := Lib.hid (show PlC w0 t n (j + 1) wr.heap.size (r', id) v12 w12 from by
                    have nF : ∀ g', w9.heap.size ≤ g' → ¬ F5 g' := fun g' hg' hf => absurd (PC.out.1.lt hf) (by omega)
                    have iyB : Iy F5 t n l5 wB := PC.out.1.later BB9.out
                    have e7 : X7' ++ X9' = (m.take k ++ m.drop (k + 1)).flatMap itC := by rw [HX7.out, HX9.out, HK1.out, List.flatMap_append]
                    have hln : (m.take k ++ m.drop (k + 1)).length = k + (mn - k1) := by rw [List.length_append, List.length_take, List.length_drop]; have := HM.out; have := HK1.out; omega
                    refine ⟨m.take k ++ m.drop (k + 1), F5, ⟨(iyB.grown hg12 (fun g' hg' => nF g' (R10.out.lt g' hg').1)).perm LP.out, ?_, fun g' hg' => nF g' ?_, PC.out.2.2.2.1, (PC.out.2.2.2.2.trans (BB9.out.mono PC.out.2.2.2.2.size)).grown hg12 (Nat.le_trans PC.out.2.2.2.2.size SB.out) (fun g' hg' => Nat.le_trans PC.out.2.2.2.2.size (R10.out.lt g' hg').1), ?_⟩, NX5.out, ?_⟩
                    · have h1 : w12.ownsRow w9.heap.size 36 5 v12 (k + (mn - k1)) (X7' ++ X9') := hown12
                      rw [← hln, e7] at h1
                      exact own_baseT h1 PC.out.2.2.2.2.size
                    · rcases ho12 with h | h
                      · rw [h] at hg'; exact (R10.out.lt g' hg').1
                      · rw [h] at hg'
                        have : wB.heap.size = g' := by simpa using hg'
                        have := SB.out
                        omega
                    · rw [hln]; have := F4.out.few; have := HM.out; omega
                    · have hlt := (Array.getElem?_eq_some_iff.1 X5.out).1
                      have h1 := (BB9.out.block _ hlt).trans X5.out
                      exact (hg12.block _ (Array.getElem?_eq_some_iff.1 h1).1 (fun e => by have := (R10.out.lt _ e.symm).1; omega)).trans h1)
                  have SC := Lib.hid (Nat.le_trans SB.out hg12.size)
                  clear hown12 hg12 ho12
                  refine hK.out _ _ (by exact SC.out) (fun hHeld1 => ?_)
                  clear hK K hHeld
                  have hHeld := hHeld1; clear hHeld1
                  try simp only [List.getElem_toArray, List.getElem_cons_succ, List.getElem_cons_zero, Act.put, List.setIfInBounds_toArray, List.set_cons_zero, List.set_cons_succ]
                  refine wpAnyH_take (i := 10) (v := ?vAz10) rfl (by kernel_rfl) (by kernel_rfl) (by kernel_rfl) (fun _ _ _ h => h) (Or.inl ⟨by rfl, ?yAz10⟩) hHeld ?rAz10
                  case yAz10 => (intro W hSw; simp only [List.getElem_toArray, List.getElem_cons_succ, List.getElem_cons_zero]; go_simp; try (with_reducible rfl))
                  simp only [List.getElem_toArray, List.getElem_cons_succ, List.getElem_cons_zero, Act.put, List.setIfInBounds_toArray, List.set_cons_zero, List.set_cons_succ]
                  clear hHeld
                  refine wpAnyH_done (by kernel_rfl) ?_ _
                  go_wp2_with fail
                  go_meet
                  exact FI12.out
            | false =>
              have CW := Lib.hid (refRect_any r'.x1 r'.y1 r'.x2 r'.y2 w4)
              obtain ⟨mr', hmr'⟩ : ∃ b, b = rmayB r'.x1 r'.y1 r'.x2 r'.y2 := ⟨_, rfl⟩
              rw [← hmr'] at CW
              have HMW := Lib.hid hmr'
              clear hmr'
              go_wp2_with fail
              refine Calls.mono CW.out ?_
              rintro e w5 ⟨rfl, hb5⟩
              have F5 := Lib.hid (F4.out.later hb5)
              have X5 := Lib.hid ((hb5.block _ (Array.getElem?_eq_some_iff.1 X4.out).1).trans X4.out)
              obtain ⟨y0, y1, y2, y3, y4⟩ := it_cells X5.out
              dsimp only at y0 y1 y2 y3 y4
              have CU := Lib.hid (iy_put r' id F5.out.iy h1 h2 HID.out (Nat.le_trans F5.out.few (by omega)))
              unfold ptr at CU
              clear hb5 CW
              by_cases hin : ∃ p ∈ m, p.2 = id
              · obtain ⟨k, hk⟩ := plc_has hin
                have hpk : pa = (k : Int) := by rw [HPA.out, hk]; rfl
                subst hpk
                have hk00 : (k : Int) ≥ 0 := by omega
                have HIN := Lib.hid hin
                clear hk hin
                by_cases hbad : mr' = false ∨ id < 0
                · have HBD := Lib.hid hbad
                  cases mr' with
                  | false =>
                    clear hbad
                    go_wp2_with fail
                    refine Calls.mono CU.out ?_
                    rintro e w6 (⟨-, rfl, hb6⟩ | ⟨h3, h4, -⟩ | ⟨h3, h4, -⟩ | ⟨h3, h4, -⟩)
                    · have F6 := Lib.hid (F5.out.later hb6)
                      have X6 := Lib.hid ((hb6.block _ (Array.getElem?_eq_some_iff.1 X5.out).1).trans X5.out)
                      clear hb6
                      go_wp2_with fail
                      refine Calls.mono (code_1 _) ?_
                      rintro e w7 ⟨rfl, rfl⟩
                      go_wp2_with fail
                      go_meet
                      exact ⟨m, F', F6.out.more, HXF.out, X6.out⟩
                    · exact absurd (HMW.out.trans h3) (by simp)
                    · exact absurd (HMW.out.trans h3) (by simp)
                    · exact absurd (HMW.out.trans h3) (by simp)
                  | true =>
                    have hb2 : id < 0 := by rcases hbad with h | h; cases h; exact h
                    clear hbad
                    go_wp2_with fail
                    refine Calls.mono CU.out ?_
                    rintro e w6 (⟨-, rfl, hb6⟩ | ⟨h3, h4, -⟩ | ⟨h3, h4, -⟩ | ⟨h3, h4, -⟩)
                    · have F6 := Lib.hid (F5.out.later hb6)
                      have X6 := Lib.hid ((hb6.block _ (Array.getElem?_eq_some_iff.1 X5.out).1).trans X5.out)
                      clear hb6
                      go_wp2_with fail
                      refine Calls.mono (code_1 _) ?_
                      rintro e w7 ⟨rfl, rfl⟩
                      go_wp2_with fail
                      go_meet
                      exact ⟨m, F', F6.out.more, HXF.out, X6.out⟩
                    · exact absurd hb2 h4
                    · exact absurd hb2 h4
                    · exact absurd hb2 h4
                · obtain ⟨hb1, hb2⟩ : mr' = true ∧ ¬ id < 0 := by
                    refine ⟨by rcases Bool.eq_false_or_eq_true mr' with h | h; exact h; exact absurd (Or.inl h) hbad, fun h => hbad (Or.inr h)⟩
                  subst hb1
                  clear hbad
                  go_wp2_with fail
                  refine Calls.mono CU.out ?_
                  rintro e w6 (⟨h | h, -⟩ | ⟨-, -, -, rfl, hb6⟩ | ⟨-, -, hno, -⟩ | ⟨-, -, hno, -⟩)
                  · rw [← HMW.out] at h; cases h
                  · exact absurd h (by omega)
                  · have F6 := Lib.hid (F5.out.later hb6)
                    have X6 := Lib.hid ((hb6.block _ (Array.getElem?_eq_some_iff.1 X5.out).1).trans X5.out)
                    clear hb6
                    go_wp2_with fail
                    refine Calls.mono (code_10 _) ?_
                    rintro e w7 ⟨rfl, rfl⟩
                    go_wp2_with fail
                    go_meet
                    exact ⟨m, F', F6.out.more, HXF.out, X6.out⟩
                  · obtain ⟨p, p1, p2⟩ := HIN.out; exact absurd p2 (hno p p1)
                  · obtain ⟨p, p1, p2⟩ := HIN.out; exact absurd p2 (hno p p1)
              · have hpk : pa = -1 := by rw [HPA.out, plc_none.2 (fun p hp e => hin ⟨p, hp, e⟩)]; rfl
                subst hpk
                have HIN := Lib.hid hin
                clear hin
                by_cases hbad : mr' = false ∨ id < 0
                · have HBD := Lib.hid hbad
                  cases mr' with
                  | false =>
                    clear hbad
                    go_wp2_with fail
                    refine Calls.mono CU.out ?_
                    rintro e w6 (⟨-, rfl, hb6⟩ | ⟨h3, h4, -⟩ | ⟨h3, h4, -⟩ | ⟨h3, h4, -⟩)
                    · have F6 := Lib.hid (F5.out.later hb6)
                      have X6 := Lib.hid ((hb6.block _ (Array.getElem?_eq_some_iff.1 X5.out).1).trans X5.out)
                      clear hb6
                      go_wp2_with fail
                      refine Calls.mono (code_1 _) ?_
                      rintro e w7 ⟨rfl, rfl⟩
                      go_wp2_with fail
                      go_meet
                      exact ⟨m, F', F6.out.more, HXF.out, X6.out⟩
                    · exact absurd (HMW.out.trans h3) (by simp)
                    · exact absurd (HMW.out.trans h3) (by simp)
                    · exact absurd (HMW.out.trans h3) (by simp)
                  | true =>
                    have hb2 : id < 0 := by rcases hbad with h | h; cases h; exact h
                    clear hbad
                    go_wp2_with fail
                    refine Calls.mono CU.out ?_
                    rintro e w6 (⟨-, rfl, hb6⟩ | ⟨h3, h4, -⟩ | ⟨h3, h4, -⟩ | ⟨h3, h4, -⟩)
                    · have F6 := Lib.hid (F5.out.later hb6)
                      have X6 := Lib.hid ((hb6.block _ (Array.getElem?_eq_some_iff.1 X5.out).1).trans X5.out)
                      clear hb6
                      go_wp2_with fail
                      refine Calls.mono (code_1 _) ?_
                      rintro e w7 ⟨rfl, rfl⟩
                      go_wp2_with fail
                      go_meet
                      exact ⟨m, F', F6.out.more, HXF.out, X6.out⟩
                    · exact absurd hb2 h4
                    · exact absurd hb2 h4
                    · exact absurd hb2 h4
                · obtain ⟨hb1, hb2⟩ : mr' = true ∧ ¬ id < 0 := by
                    refine ⟨by rcases Bool.eq_false_or_eq_true mr' with h | h; exact h; exact absurd (Or.inl h) hbad, fun h => hbad (Or.inr h)⟩
                  subst hb1
                  clear hbad
                  go_wp2_with fail
                  refine Calls.mono CU.out ?_
                  rintro e w6 (⟨h | h, -⟩ | ⟨-, -, h, -⟩ | ⟨-, -, -, h, -⟩ | ⟨-, -, -, -, rfl, F6, hx6, hch⟩)
                  · rw [← HMW.out] at h; cases h
                  · exact absurd h (by omega)
                  · exact absurd h HIN.out
                  · have := F5.out.few; omega
                  · have PC := Lib.hid (F5.out.chg hx6 hch)
                    obtain ⟨hbx, hnx⟩ := hch.block (Array.getElem?_eq_some_iff.1 X5.out).1 HXF.out
                    have X6 := Lib.hid (hbx.trans X5.out)
                    have NX6 := Lib.hid hnx
                    clear hbx hnx hx6 hch
                    go_wp2_with fail
                    refine Calls.mono (Cn.code_nil _) ?_
                    rintro e w7 ⟨rfl, rfl⟩
                    obtain ⟨y0, y1, y2, y3, y4⟩ := it_cells X6.out
                    dsimp only at y0 y1 y2 y3 y4
                    obtain ⟨mn, hmn⟩ : ∃ x, x = m.length := ⟨_, rfl⟩
                    obtain ⟨X, hX⟩ : ∃ x, x = m.flatMap itC := ⟨_, rfl⟩
                    have hmn250 : mn ≤ 250 := by have := F4.out.few; omega
                    have Bw6 := Lib.hid (Below.refl w6.heap.size w6)
                    have Mw6 := Lib.hid (show w6.ownsRow w0.heap.size 36 5 u12 mn X by rw [hmn, hX]; exact PC.out.2.1)
                    have OX := Lib.hid (show ∀ u ∈ X, u.oneCell' = true by rw [hX]; exact flat_one _)
                    have SK := Lib.hid (show ∀ W, Below w6.heap.size w6 W → W.cell? ⟨wr.heap.size, 0, none⟩ = some (.int .i64 r'.x1) ∧ W.cell? ⟨wr.heap.size, 1, none⟩ = some (.int .i64 r'.y1) ∧ W.cell? ⟨wr.heap.size, 2, none⟩ = some (.int .i64 r'.x2) ∧ W.cell? ⟨wr.heap.size, 3, none⟩ = some (.int .i64 r'.y2) ∧ W.cell? ⟨wr.heap.size, 4, none⟩ = some (.int .i64 id) from fun W hb => it_cells (p := (r', id)) ((hb.block _ (Array.getElem?_eq_some_iff.1 X6.out).1).trans X6.out))
                    have FIN := Lib.hid (show ∀ v10 W v12 w12, Below w6.heap.size w6 W → W.ownsRow w6.heap.size 36 5 v10 mn X → w12.ownsRow w6.heap.size 36 5 v12 (mn + 1) (X ++ [.int .i64 r'.x1, .int .i64 r'.y1, .int .i64 r'.x2, .int .i64 r'.y2, .int .i64 id]) → W.grownBy w12 v10.ownBlock → (v12.ownBlock = v10.ownBlock ∨ v12.ownBlock = some W.heap.size) → PlC w0 t n (j + 1) wr.heap.size (r', id) v12 w12 from fun v10 W v12 w12 hB hR hown hg ho => by
                      have nF : ∀ g', w6.heap.size ≤ g' → ¬ F6 g' := fun g' hg' hf => absurd (PC.out.1.lt hf) (by omega)
                      have e7 : X ++ [.int .i64 r'.x1, .int .i64 r'.y1, .int .i64 r'.x2, .int .i64 r'.y2, .int .i64 id] = (m ++ [(r', id)]).flatMap itC := by rw [hX, List.flatMap_append]; simp [itC]
                      have hln : (m ++ [(r', id)]).length = mn + 1 := by rw [List.length_append, hmn]; rfl
                      refine ⟨m ++ [(r', id)], F6, ⟨(PC.out.1.later hB).grown hg (fun g' hg' => nF g' (hR.lt g' hg').1), ?_, fun g' hg' => nF g' ?_, PC.out.2.2.2.1, (PC.out.2.2.2.2.trans (hB.mono PC.out.2.2.2.2.size)).grown hg (Nat.le_trans PC.out.2.2.2.2.size hB.size) (fun g' hg' => Nat.le_trans PC.out.2.2.2.2.size (hR.lt g' hg').1), ?_⟩, NX6.out, ?_⟩
                      · rw [hln, ← e7]
                        exact own_baseT hown PC.out.2.2.2.2.size
                      · rcases ho with h | h
                        · rw [h] at hg'; exact (hR.lt g' hg').1
                        · rw [h] at hg'
                          have : W.heap.size = g' := by simpa using hg'
                          have := hB.size
                          omega
                      · rw [hln, hmn]; have := F4.out.few; omega
                      · have hlt := (Array.getElem?_eq_some_iff.1 X6.out).1
                        have h1 := (hB.block _ hlt).trans X6.out
                        exact (hg.block _ (Array.getElem?_eq_some_iff.1 h1).1 (fun e => by have := (hR.lt _ e.symm).1; omega)).trans h1)
                    clear hmn hX
                    go_wp2_with fail
                    refine wp_region_held_drew (S := (fun W : World => W.cell? ⟨wr.heap.size, 0, none⟩ = some (.int .i64 r'.x1) ∧ W.cell? ⟨wr.heap.size, 1, none⟩ = some (.int .i64 r'.y1) ∧ W.cell? ⟨wr.heap.size, 2, none⟩ = some (.int .i64 r'.x2) ∧ W.cell? ⟨wr.heap.size, 3, none⟩ = some (.int .i64 r'.y2) ∧ W.cell? ⟨wr.heap.size, 4, none⟩ = some (.int .i64 id))) (by kernel_rfl) (SK.out _ Bw6.out.drew) (fun hHeld => ?_)
                    refine wpAnyH_take (i := 1) (v := ?vP1) rfl (by kernel_rfl) (by kernel_rfl) (by kernel_rfl) (fun _ _ _ h => h) (Or.inl ⟨by rfl, ?yP1⟩) hHeld ?rP1
                    case yP1 => (intro W hSw; simp only [List.getElem_toArray, List.getElem_cons_succ, List.getElem_cons_zero]; go_simp; try (with_reducible rfl))
                    simp only [List.getElem_toArray, List.getElem_cons_succ, List.getElem_cons_zero, Act.put, List.setIfInBounds_toArray, List.set_cons_zero, List.set_cons_succ]
                    refine wpAnyH_take (i := 3) (v := ?vP3) rfl (by kernel_rfl) (by kernel_rfl) (by kernel_rfl) (fun _ _ _ h => h) (Or.inl ⟨by rfl, ?yP3⟩) hHeld ?rP3
                    case yP3 => (intro W hSw; simp only [List.getElem_toArray, List.getElem_cons_succ, List.getElem_cons_zero]; go_simp; try (with_reducible rfl))
                    simp only [List.getElem_toArray, List.getElem_cons_succ, List.getElem_cons_zero, Act.put, List.setIfInBounds_toArray, List.set_cons_zero, List.set_cons_succ]
                    refine wpAnyH_ready (rs := [0, 4]) (by kernel_rfl) (by simp) (AllReadyH.cons rfl (fun K hK => ?_) (AllReadyH.cons rfl (fun K hK => ?_) AllReadyH.nil))
                    · simp only [List.getElem_toArray, List.getElem_cons_succ, List.getElem_cons_zero]
                      go_simp
                      first | (obtain ⟨wA, hwA⟩ : ∃ v, v = (w6.alloc (.cells #[] 36)).drew := ⟨_, rfl⟩; rw [← hwA]) | (obtain ⟨wA, hwA⟩ : ∃ v, v = w6.alloc (.cells #[] 36) := ⟨_, rfl⟩; rw [← hwA])
                      have LwA := Lib.hid (show Below w6.heap.size w6 wA by rw [hwA]; first | exact ((Below.refl _ _).alloc (Nat.le_refl _) _).drew | exact (Below.refl _ _).alloc (Nat.le_refl _) _)
                      have OwA := Lib.hid (show wA.heap[w6.heap.size]? = some (.cells #[] 36 (0, 0)) by rw [hwA]; exact (MapKept.heap_alloc w6 _).1)
                      have ZwA := Lib.hid (show w6.heap.size < wA.heap.size from (Array.getElem?_eq_some_iff.1 OwA.out).1)
                      have BwA := Lib.hid (Bw6.out.trans (LwA.out.mono Bw6.out.size))
                      clear hwA
                      have MwA := Lib.hid (Mw6.out.kept (row := none) ⟨LwA.out.os, LwA.out.tape, LwA.out.output, LwA.out.size, fun k hk _ => LwA.out.block k hk⟩ (Classical.em _))
                      have EwA := Lib.hid (show wA.ownsRow w6.heap.size 36 5 (.slice (some ⟨w6.heap.size, 0, none⟩) 0 0) 0 [] from ⟨rfl, Or.inr ⟨w6.heap.size, 0, #[], rfl, Bw6.out.size, OwA.out, Nat.le_refl _, Nat.zero_le _, rfl, rfl⟩⟩)
                      refine hK.out _ _ (by exact SK.out _ BwA.out) (fun hHeld1 => ?_)
                      clear hK K hHeld
                      have hHeld := hHeld1; clear hHeld1
                      try simp only [List.getElem_toArray, List.getElem_cons_succ, List.getElem_cons_zero, Act.put, List.setIfInBounds_toArray, List.set_cons_zero, List.set_cons_succ]
                      refine wpAnyH_ready (rs := [2, 4]) (by kernel_rfl) (by simp) (AllReadyH.cons rfl (fun K hK => ?_) (AllReadyH.cons rfl (fun K hK => ?_) AllReadyH.nil))
                      · simp only [List.getElem_toArray, List.getElem_cons_succ, List.getElem_cons_zero]
                        refine wp_append_row (.tmp 128) (.tmp 129) 34 rfl w6.heap.size 36 i0 (.agg #[.int .i64 0, .int .i64 0, .int .i64 0, .int .i64 0, .int .i64 0]) 5 40 Tryz.underlying34 hi0 hz0 hz1 hz2 rfl (by decide) (.slice (some ⟨w6.heap.size, 0, none⟩) 0 0) 0 [] rfl EwA.out w0.heap.size u12 mn X rfl MwA.out OX.out (by unfold maxLen; omega) (by omega) BwA.out.size ?_
                        intro v10 wB hown10 hg10 ho10
                        have RwB := Lib.hid (show wB.ownsRow w6.heap.size 36 5 v10 mn X by simpa using hown10)
                        have BwB := Lib.hid (BwA.out.grown hg10 BwA.out.size (fun g' hg' => (EwA.out.lt g' hg').1))
                        clear hown10 hg10 ho10
                        refine hK.out _ _ (by exact SK.out _ BwB.out) (fun hHeld1 => ?_)
                        clear hK K hHeld
                        have hHeld := hHeld1; clear hHeld1
                        try simp only [List.getElem_toArray, List.getElem_cons_succ, List.getElem_cons_zero, Act.put, List.setIfInBounds_toArray, List.set_cons_zero, List.set_cons_succ]
                        refine wpAnyH_ready (rs := [4]) (by kernel_rfl) (by simp) (AllReadyH.cons rfl (fun K hK => ?_) AllReadyH.nil)
                        simp only [List.getElem_toArray, List.getElem_cons_succ, List.getElem_cons_zero]
                        go_simp
                        first | (obtain ⟨wC, hwC⟩ : ∃ v, v = (wB.alloc (.cells #[.int .i64 r'.x1, .int .i64 r'.y1, .int .i64 r'.x2, .int .i64 r'.y2, .int .i64 id] 36)).drew := ⟨_, rfl⟩; rw [← hwC]) | (obtain ⟨wC, hwC⟩ : ∃ v, v = wB.alloc (.cells #[.int .i64 r'.x1, .int .i64 r'.y1, .int .i64 r'.x2, .int .i64 r'.y2, .int .i64 id] 36) := ⟨_, rfl⟩; rw [← hwC])
                        have LwC := Lib.hid (show Below wB.heap.size wB wC by rw [hwC]; first | exact ((Below.refl _ _).alloc (Nat.le_refl _) _).drew | exact (Below.refl _ _).alloc (Nat.le_refl _) _)
                        have OwC := Lib.hid (show wC.heap[wB.heap.size]? = some (.cells #[.int .i64 r'.x1, .int .i64 r'.y1, .int .i64 r'.x2, .int .i64 r'.y2, .int .i64 id] 36 (0, 0)) by rw [hwC]; exact (MapKept.heap_alloc wB _).1)
                        have ZwC := Lib.hid (show wB.heap.size < wC.heap.size from (Array.getElem?_eq_some_iff.1 OwC.out).1)
                        have BwC := Lib.hid (BwB.out.trans (LwC.out.mono BwB.out.size))
                        clear hwC
                        have RwC := Lib.hid (RwB.out.kept (row := none) ⟨LwC.out.os, LwC.out.tape, LwC.out.output, LwC.out.size, fun k hk _ => LwC.out.block k hk⟩ (Classical.em _))
                        have IwC := OwC
                        refine hK.out _ _ (by exact SK.out _ BwC.out) (fun hHeld1 => ?_)
                        clear hK K hHeld
                        have hHeld := hHeld1; clear hHeld1
                        try simp only [List.getElem_toArray, List.getElem_cons_succ, List.getElem_cons_zero, Act.put, List.setIfInBounds_toArray, List.set_cons_zero, List.set_cons_succ]
                        refine wpAnyH_ready (rs := [5]) (by kernel_rfl) (by simp) (AllReadyH.cons rfl (fun K hK => ?_) AllReadyH.nil)
                        simp only [List.getElem_toArray, List.getElem_cons_succ, List.getElem_cons_zero]
                        refine wp_append_at (.tmp 130) (.tmp 132) 34 rfl w6.heap.size 36 i0 (.agg #[.int .i64 0, .int .i64 0, .int .i64 0, .int .i64 0, .int .i64 0]) 5 40 Tryz.underlying34 hi0 hz0 hz1 hz2 rfl (by decide) v10 mn X rfl RwC.out ⟨wB.heap.size, 0, none⟩ 1 1 [.int .i64 r'.x1, .int .i64 r'.y1, .int .i64 r'.x2, .int .i64 r'.y2, .int .i64 id] rfl rfl (fun i u hu => by
                          rw [addr_at, Nat.zero_add]
                          simp only [World.cell?, IwC.out, Option.bind_some]
                          simpa using hu) (by simp [Value.oneCell']) (by unfold maxLen; omega) (by omega) BwC.out.size ?_
                        intro v12 w12 hown12 hg12 ho12
                        have FI12 := Lib.hid (FIN.out v10 wC v12 w12 BwC.out RwC.out hown12 hg12 ho12)
                        have Bw12 := Lib.hid (BwC.out.grown hg12 BwC.out.size (fun g' hg' => (RwC.out.lt g' hg').1))
                        clear hown12 hg12 ho12
                        refine hK.out _ _ (by exact SK.out _ Bw12.out) (fun hHeld1 => ?_)
                        clear hK K hHeld
                        have hHeld := hHeld1; clear hHeld1
                        try simp only [List.getElem_toArray, List.getElem_cons_succ, List.getElem_cons_zero, Act.put, List.setIfInBounds_toArray, List.set_cons_zero, List.set_cons_succ]
                        refine wpAnyH_take (i := 6) (v := ?vPa6) rfl (by kernel_rfl) (by kernel_rfl) (by kernel_rfl) (fun _ _ _ h => h) (Or.inl ⟨by rfl, ?yPa6⟩) hHeld ?rPa6
                        case yPa6 => (intro W hSw; simp only [List.getElem_toArray, List.getElem_cons_succ, List.getElem_cons_zero]; go_simp; try (with_reducible rfl))
                        simp only [List.getElem_toArray, List.getElem_cons_succ, List.getElem_cons_zero, Act.put, List.setIfInBounds_toArray, List.set_cons_zero, List.set_cons_succ]
                        clear hHeld
                        refine wpAnyH_done (by kernel_rfl) ?_ _
                        go_wp2_with fail
                        go_meet
                        exact FI12.out
                      · simp only [List.getElem_toArray, List.getElem_cons_succ, List.getElem_cons_zero]
                        go_simp
                        first | (obtain ⟨wB, hwB⟩ : ∃ v, v = (wA.alloc (.cells #[.int .i64 r'.x1, .int .i64 r'.y1, .int .i64 r'.x2, .int .i64 r'.y2, .int .i64 id] 36)).drew := ⟨_, rfl⟩; rw [← hwB]) | (obtain ⟨wB, hwB⟩ : ∃ v, v = wA.alloc (.cells #[.int .i64 r'.x1, .int .i64 r'.y1, .int .i64 r'.x2, .int .i64 r'.y2, .int .i64 id] 36) := ⟨_, rfl⟩; rw [← hwB])
                        have LwB := Lib.hid (show Below wA.heap.size wA wB by rw [hwB]; first | exact ((Below.refl _ _).alloc (Nat.le_refl _) _).drew | exact (Below.refl _ _).alloc (Nat.le_refl _) _)
                        have OwB := Lib.hid (show wB.heap[wA.heap.size]? = some (.cells #[.int .i64 r'.x1, .int .i64 r'.y1, .int .i64 r'.x2, .int .i64 r'.y2, .int .i64 id] 36 (0, 0)) by rw [hwB]; exact (MapKept.heap_alloc wA _).1)
                        have ZwB := Lib.hid (show wA.heap.size < wB.heap.size from (Array.getElem?_eq_some_iff.1 OwB.out).1)
                        have BwB := Lib.hid (BwA.out.trans (LwB.out.mono BwA.out.size))
                        clear hwB
                        have EwB := Lib.hid (EwA.out.kept (row := none) ⟨LwB.out.os, LwB.out.tape, LwB.out.output, LwB.out.size, fun k hk _ => LwB.out.block k hk⟩ (Classical.em _))
                        have MwB := Lib.hid (MwA.out.kept (row := none) ⟨LwB.out.os, LwB.out.tape, LwB.out.output, LwB.out.size, fun k hk _ => LwB.out.block k hk⟩ (Classical.em _))
                        have IwB := OwB
                        refine hK.out _ _ (by exact SK.out _ BwB.out) (fun hHeld1 => ?_)
                        clear hK K hHeld
                        have hHeld := hHeld1; clear hHeld1
                        try simp only [List.getElem_toArray, List.getElem_cons_succ, List.getElem_cons_zero, Act.put, List.setIfInBounds_toArray, List.set_cons_zero, List.set_cons_succ]
                        refine wpAnyH_ready (rs := [2]) (by kernel_rfl) (by simp) (AllReadyH.cons rfl (fun K hK => ?_) AllReadyH.nil)
                        simp only [List.getElem_toArray, List.getElem_cons_succ, List.getElem_cons_zero]
                        refine wp_append_row (.tmp 128) (.tmp 129) 34 rfl w6.heap.size 36 i0 (.agg #[.int .i64 0, .int .i64 0, .int .i64 0, .int .i64 0, .int .i64 0]) 5 40 Tryz.underlying34 hi0 hz0 hz1 hz2 rfl (by decide) (.slice (some ⟨w6.heap.size, 0, none⟩) 0 0) 0 [] rfl EwB.out w0.heap.size u12 mn X rfl MwB.out OX.out (by unfold maxLen; omega) (by omega) BwB.out.size ?_
                        intro v10 wC hown10 hg10 ho10
                        have RwC := Lib.hid (show wC.ownsRow w6.heap.size 36 5 v10 mn X by simpa using hown10)
                        have BwC := Lib.hid (BwB.out.grown hg10 BwB.out.size (fun g' hg' => (EwB.out.lt g' hg').1))
                        have IwC := Lib.hid ((hg10.block _ (Array.getElem?_eq_some_iff.1 IwB.out).1 (fun h => by have h2 := Option.some.inj h; dsimp only at h2; first | omega | (have := ZwA.out; omega) | (have := ZwB.out; omega))).trans IwB.out)
                        clear hown10 hg10 ho10
                        refine hK.out _ _ (by exact SK.out _ BwC.out) (fun hHeld1 => ?_)
                        clear hK K hHeld
                        have hHeld := hHeld1; clear hHeld1
                        try simp only [List.getElem_toArray, List.getElem_cons_succ, List.getElem_cons_zero, Act.put, List.setIfInBounds_toArray, List.set_cons_zero, List.set_cons_succ]
                        refine wpAnyH_ready (rs := [5]) (by kernel_rfl) (by simp) (AllReadyH.cons rfl (fun K hK => ?_) AllReadyH.nil)
                        simp only [List.getElem_toArray, List.getElem_cons_succ, List.getElem_cons_zero]
                        refine wp_append_at (.tmp 130) (.tmp 132) 34 rfl w6.heap.size 36 i0 (.agg #[.int .i64 0, .int .i64 0, .int .i64 0, .int .i64 0, .int .i64 0]) 5 40 Tryz.underlying34 hi0 hz0 hz1 hz2 rfl (by decide) v10 mn X rfl RwC.out ⟨wA.heap.size, 0, none⟩ 1 1 [.int .i64 r'.x1, .int .i64 r'.y1, .int .i64 r'.x2, .int .i64 r'.y2, .int .i64 id] rfl rfl (fun i u hu => by
                          rw [addr_at, Nat.zero_add]
                          simp only [World.cell?, IwC.out, Option.bind_some]
                          simpa using hu) (by simp [Value.oneCell']) (by unfold maxLen; omega) (by omega) BwC.out.size ?_
                        intro v12 w12 hown12 hg12 ho12
                        have FI12 := Lib.hid (FIN.out v10 wC v12 w12 BwC.out RwC.out hown12 hg12 ho12)
                        have Bw12 := Lib.hid (BwC.out.grown hg12 BwC.out.size (fun g' hg' => (RwC.out.lt g' hg').1))
                        clear hown12 hg12 ho12
                        refine hK.out _ _ (by exact SK.out _ Bw12.out) (fun hHeld1 => ?_)
                        clear hK K hHeld
                        have hHeld := hHeld1; clear hHeld1
                        try simp only [List.getElem_toArray, List.getElem_cons_succ, List.getElem_cons_zero, Act.put, List.setIfInBounds_toArray, List.set_cons_zero, List.set_cons_succ]
                        refine wpAnyH_take (i := 6) (v := ?vPb6) rfl (by kernel_rfl) (by kernel_rfl) (by kernel_rfl) (fun _ _ _ h => h) (Or.inl ⟨by rfl, ?yPb6⟩) hHeld ?rPb6
                        case yPb6 => (intro W hSw; simp only [List.getElem_toArray, List.getElem_cons_succ, List.getElem_cons_zero]; go_simp; try (with_reducible rfl))
                        simp only [List.getElem_toArray, List.getElem_cons_succ, List.getElem_cons_zero, Act.put, List.setIfInBounds_toArray, List.set_cons_zero, List.set_cons_succ]
                        clear hHeld
                        refine wpAnyH_done (by kernel_rfl) ?_ _
                        go_wp2_with fail
                        go_meet
                        exact FI12.out
                    · simp only [List.getElem_toArray, List.getElem_cons_succ, List.getElem_cons_zero]
                      go_simp
                      first | (obtain ⟨wA, hwA⟩ : ∃ v, v = (w6.alloc (.cells #[.int .i64 r'.x1, .int .i64 r'.y1, .int .i64 r'.x2, .int .i64 r'.y2, .int .i64 id] 36)).drew := ⟨_, rfl⟩; rw [← hwA]) | (obtain ⟨wA, hwA⟩ : ∃ v, v = w6.alloc (.cells #[.int .i64 r'.x1, .int .i64 r'.y1, .int .i64 r'.x2, .int .i64 r'.y2, .int .i64 id] 36) := ⟨_, rfl⟩; rw [← hwA])
                      have LwA := Lib.hid (show Below w6.heap.size w6 wA by rw [hwA]; first | exact ((Below.refl _ _).alloc (Nat.le_refl _) _).drew | exact (Below.refl _ _).alloc (Nat.le_refl _) _)
                      have OwA := Lib.hid (show wA.heap[w6.heap.size]? = some (.cells #[.int .i64 r'.x1, .int .i64 r'.y1, .int .i64 r'.x2, .int .i64 r'.y2, .int .i64 id] 36 (0, 0)) by rw [hwA]; exact (MapKept.heap_alloc w6 _).1)
                      have ZwA := Lib.hid (show w6.heap.size < wA.heap.size from (Array.getElem?_eq_some_iff.1 OwA.out).1)
                      have BwA := Lib.hid (Bw6.out.trans (LwA.out.mono Bw6.out.size))
                      clear hwA
                      have MwA := Lib.hid (Mw6.out.kept (row := none) ⟨LwA.out.os, LwA.out.tape, LwA.out.output, LwA.out.size, fun k hk _ => LwA.out.block k hk⟩ (Classical.em _))
                      have IwA := OwA
                      refine hK.out _ _ (by exact SK.out _ BwA.out) (fun hHeld1 => ?_)
                      clear hK K hHeld
                      have hHeld := hHeld1; clear hHeld1
                      try simp only [List.getElem_toArray, List.getElem_cons_succ, List.getElem_cons_zero, Act.put, List.setIfInBounds_toArray, List.set_cons_zero, List.set_cons_succ]
                      refine wpAnyH_ready (rs := [0]) (by kernel_rfl) (by simp) (AllReadyH.cons rfl (fun K hK => ?_) AllReadyH.nil)
                      simp only [List.getElem_toArray, List.getElem_cons_succ, List.getElem_cons_zero]
                      go_simp
                      first | (obtain ⟨wB, hwB⟩ : ∃ v, v = (wA.alloc (.cells #[] 36)).drew := ⟨_, rfl⟩; rw [← hwB]) | (obtain ⟨wB, hwB⟩ : ∃ v, v = wA.alloc (.cells #[] 36) := ⟨_, rfl⟩; rw [← hwB])
                      have LwB := Lib.hid (show Below wA.heap.size wA wB by rw [hwB]; first | exact ((Below.refl _ _).alloc (Nat.le_refl _) _).drew | exact (Below.refl _ _).alloc (Nat.le_refl _) _)
                      have OwB := Lib.hid (show wB.heap[wA.heap.size]? = some (.cells #[] 36 (0, 0)) by rw [hwB]; exact (MapKept.heap_alloc wA _).1)
                      have ZwB := Lib.hid (show wA.heap.size < wB.heap.size from (Array.getElem?_eq_some_iff.1 OwB.out).1)
                      have BwB := Lib.hid (BwA.out.trans (LwB.out.mono BwA.out.size))
                      clear hwB
                      have MwB := Lib.hid (MwA.out.kept (row := none) ⟨LwB.out.os, LwB.out.tape, LwB.out.output, LwB.out.size, fun k hk _ => LwB.out.block k hk⟩ (Classical.em _))
                      have IwB := Lib.hid ((LwB.out.block _ (Array.getElem?_eq_some_iff.1 IwA.out).1).trans IwA.out)
                      have EwB := Lib.hid (show wB.ownsRow w6.heap.size 36 5 (.slice (some ⟨wA.heap.size, 0, none⟩) 0 0) 0 [] from ⟨rfl, Or.inr ⟨wA.heap.size, 0, #[], rfl, BwA.out.size, OwB.out, Nat.le_refl _, Nat.zero_le _, rfl, rfl⟩⟩)
                      refine hK.out _ _ (by exact SK.out _ BwB.out) (fun hHeld1 => ?_)
                      clear hK K hHeld
                      have hHeld := hHeld1; clear hHeld1
                      try simp only [List.getElem_toArray, List.getElem_cons_succ, List.getElem_cons_zero, Act.put, List.setIfInBounds_toArray, List.set_cons_zero, List.set_cons_succ]
                      refine wpAnyH_ready (rs := [2]) (by kernel_rfl) (by simp) (AllReadyH.cons rfl (fun K hK => ?_) AllReadyH.nil)
                      simp only [List.getElem_toArray, List.getElem_cons_succ, List.getElem_cons_zero]
                      refine wp_append_row (.tmp 128) (.tmp 129) 34 rfl w6.heap.size 36 i0 (.agg #[.int .i64 0, .int .i64 0, .int .i64 0, .int .i64 0, .int .i64 0]) 5 40 Tryz.underlying34 hi0 hz0 hz1 hz2 rfl (by decide) (.slice (some ⟨wA.heap.size, 0, none⟩) 0 0) 0 [] rfl EwB.out w0.heap.size u12 mn X rfl MwB.out OX.out (by unfold maxLen; omega) (by omega) BwB.out.size ?_
                      intro v10 wC hown10 hg10 ho10
                      have RwC := Lib.hid (show wC.ownsRow w6.heap.size 36 5 v10 mn X by simpa using hown10)
                      have BwC := Lib.hid (BwB.out.grown hg10 BwB.out.size (fun g' hg' => (EwB.out.lt g' hg').1))
                      have IwC := Lib.hid ((hg10.block _ (Array.getElem?_eq_some_iff.1 IwB.out).1 (fun h => by have h2 := Option.some.inj h; dsimp only at h2; first | omega | (have := ZwA.out; omega) | (have := ZwB.out; omega))).trans IwB.out)
                      clear hown10 hg10 ho10
                      refine hK.out _ _ (by exact SK.out _ BwC.out) (fun hHeld1 => ?_)
                      clear hK K hHeld
                      have hHeld := hHeld1; clear hHeld1
                      try simp only [List.getElem_toArray, List.getElem_cons_succ, List.getElem_cons_zero, Act.put, List.setIfInBounds_toArray, List.set_cons_zero, List.set_cons_succ]
                      refine wpAnyH_ready (rs := [5]) (by kernel_rfl) (by simp) (AllReadyH.cons rfl (fun K hK => ?_) AllReadyH.nil)
                      simp only [List.getElem_toArray, List.getElem_cons_succ, List.getElem_cons_zero]
                      refine wp_append_at (.tmp 130) (.tmp 132) 34 rfl w6.heap.size 36 i0 (.agg #[.int .i64 0, .int .i64 0, .int .i64 0, .int .i64 0, .int .i64 0]) 5 40 Tryz.underlying34 hi0 hz0 hz1 hz2 rfl (by decide) v10 mn X rfl RwC.out ⟨w6.heap.size, 0, none⟩ 1 1 [.int .i64 r'.x1, .int .i64 r'.y1, .int .i64 r'.x2, .int .i64 r'.y2, .int .i64 id] rfl rfl (fun i u hu => by
                        rw [addr_at, Nat.zero_add]
                        simp only [World.cell?, IwC.out, Option.bind_some]
                        simpa using hu) (by simp [Value.oneCell']) (by unfold maxLen; omega) (by omega) BwC.out.size ?_
                      intro v12 w12 hown12 hg12 ho12
                      have FI12 := Lib.hid (FIN.out v10 wC v12 w12 BwC.out RwC.out hown12 hg12 ho12)
                      have Bw12 := Lib.hid (BwC.out.grown hg12 BwC.out.size (fun g' hg' => (RwC.out.lt g' hg').1))
                      clear hown12 hg12 ho12
                      refine hK.out _ _ (by exact SK.out _ Bw12.out) (fun hHeld1 => ?_)
                      clear hK K hHeld
                      have hHeld := hHeld1; clear hHeld1
                      try simp only [List.getElem_toArray, List.getElem_cons_succ, List.getElem_cons_zero, Act.put, List.setIfInBounds_toArray, List.set_cons_zero, List.set_cons_succ]
                      refine wpAnyH_take (i := 6) (v := ?vPc6) rfl (by kernel_rfl) (by kernel_rfl) (by kernel_rfl) (fun _ _ _ h => h) (Or.inl ⟨by rfl, ?yPc6⟩) hHeld ?rPc6
                      case yPc6 => (intro W hSw; simp only [List.getElem_toArray, List.getElem_cons_succ, List.getElem_cons_zero]; go_simp; try (with_reducible rfl))
                      simp only [List.getElem_toArray, List.getElem_cons_succ, List.getElem_cons_zero, Act.put, List.setIfInBounds_toArray, List.set_cons_zero, List.set_cons_succ]
                      clear hHeld
                      refine wpAnyH_done (by kernel_rfl) ?_ _
                      go_wp2_with fail
                      go_meet
                      exact FI12.out
          case rest =>
            obtain ⟨m2, F2', hpl, hnf, hxx⟩ := hcut
            have FC := Lib.hid hpl
            have NC := Lib.hid hnf
            have XC := Lib.hid hxx
            have CA := Lib.hid (ix_amiss FC.out.iy.ix h1 h2 (Nat.le_trans FC.out.few (by omega)))
            rw [HNO.out] at CA
            unfold ptr at CA
            obtain ⟨r10, hr10⟩ : ∃ r10 : Nat, r10 = j % 10 := ⟨_, rfl⟩
            have ht10 : Int.tmod (j : Int) 10 = (r10 : Int) := by rw [hr10]; rfl
            clear hpl hnf hxx hr10
            by_cases h10 : r10 = 0
            · have hb10 : ((r10 : Int) == 0) = true := by simp; omega
              go_wp2_with fail
              refine Calls.mono CA.out ?_
              rintro e w6 ⟨rfl, hb6⟩
              have F6 := Lib.hid (FC.out.later hb6)
              have X6 := Lib.hid ((hb6.block _ (Array.getElem?_eq_some_iff.1 XC.out).1).trans XC.out)
              clear hb6 CA
              have IG := Lib.hid (ix_get id F6.out.iy.ix HID.out)
              unfold ptr at IG
              obtain ⟨y0, y1, y2, y3, y4⟩ := it_cells X6.out
              go_wp2_with fail
              refine Calls.mono IG.out ?_
              rintro e w7 ⟨hb7, ⟨hno, rfl⟩ | ⟨p, hp, hpi, rfl⟩⟩
              · obtain ⟨w8, hw8⟩ : ∃ v, v = w7.alloc (.cells #[.int .i64 0, .int .i64 0, .int .i64 0, .int .i64 0] 26) := ⟨_, rfl⟩
                have HW8 := Lib.hid hw8
                have B8 := Lib.hid (show Below w7.heap.size w7 w8 by rw [hw8]; exact (Below.refl _ _).alloc (Nat.le_refl _) _)
                have F8 := Lib.hid ((F6.out.later hb7).later B8.out)
                have X8 := Lib.hid ((B8.out.block _ (Array.getElem?_eq_some_iff.1 ((hb7.block _ (Array.getElem?_eq_some_iff.1 X6.out).1).trans X6.out)).1).trans ((hb7.block _ (Array.getElem?_eq_some_iff.1 X6.out).1).trans X6.out))
                have u4 := (it_cells ((hb7.block _ (Array.getElem?_eq_some_iff.1 X6.out).1).trans X6.out)).2.2.2.2
                dsimp only at u4
                have ult : wr.heap.size < w7.heap.size := World.block_lt_of_cell? w7 ⟨wr.heap.size, 4, none⟩ u4
                have un : wr.heap.size ≠ w7.heap.size := by omega
                have un2 : w7.heap.size ≠ wr.heap.size := by omega
                have y4w := cell_later B8.out u4
                rw [HW8.out] at y4w
                have CP2 := Lib.hid (place_any _ m2 id w8 F8.out.rowT (Nat.le_trans F8.out.few (by omega)))
                rw [plc_none.2 hno] at CP2
                have e1 : plI none = -1 := rfl
                rw [e1] at CP2
                clear hb7 hno hw8 IG e1 y0 y1 y2 y3 y4
                go_wp2_with fail
                rw [← HW8.out]
                refine Calls.mono CP2.out ?_
                rintro e w9 ⟨rfl, hb9⟩
                have F9 := Lib.hid (F8.out.later hb9)
                have CL := Lib.hid (ix_len F9.out.iy.ix)
                unfold ptr at CL
                clear hb9 CP2
                obtain ⟨m3, hm3⟩ : ∃ m3, m3 = m2.length := ⟨_, rfl⟩
                obtain ⟨a9, c9, e9⟩ : ∃ a c, u12 = .slice a m3 c := by
                  obtain ⟨A, c, e, -, -⟩ := F9.out.rowT.form
                  exact ⟨A, c, by rw [hm3]; exact e⟩
                subst e9
                rw [← hm3] at CL
                have hnn : ((m3 : Int) != (m3 : Int)) = false := by simp
                clear hm3
                go_wp2_with fail
                refine Calls.mono CL.out ?_
                rintro e w10 ⟨rfl, rfl⟩
                go_wp2_with fail
                go_roundw
                case rel => first | exact ⟨j + 1, m2, F2', by go_num, HJL.out, F9.out⟩ | ((repeat apply Exists.intro); exact ⟨⟨j + 1, m2, F2', by go_num, HJL.out, F9.out⟩, rfl⟩)
                case measure => simp [intOf]; omega
              · obtain ⟨k, hk⟩ := plc_has ⟨p, hp, hpi⟩
                obtain ⟨hkm, hki⟩ := plc_some hk
                have hpk : p = m2[k] := one_of F6.out.iy.ids hp (List.getElem_mem hkm) (hpi.trans hki.symm)
                obtain ⟨⟨p1, p2, p3, p4⟩, pid⟩ := p
                dsimp only at hpi
                have hpi' := hpi.symm
                subst hpi'
                obtain ⟨w8, hw8⟩ : ∃ v, v = w7.alloc (.cells (rC ⟨p1, p2, p3, p4⟩) 26) := ⟨_, rfl⟩
                have B8 := Lib.hid (show Below w7.heap.size w7 w8 by rw [hw8]; exact (Below.refl _ _).alloc (Nat.le_refl _) _)
                have G8 := Lib.hid (show w8.heap[w7.heap.size]? = some (.cells (rC ⟨p1, p2, p3, p4⟩) 26 (0, 0)) by rw [hw8]; exact (MapKept.heap_alloc w7 _).1)
                unfold rC at hw8
                dsimp only at hw8
                have HW8 := Lib.hid hw8
                have F8 := Lib.hid ((F6.out.later hb7).later B8.out)
                have X8 := Lib.hid ((B8.out.block _ (Array.getElem?_eq_some_iff.1 ((hb7.block _ (Array.getElem?_eq_some_iff.1 X6.out).1).trans X6.out)).1).trans ((hb7.block _ (Array.getElem?_eq_some_iff.1 X6.out).1).trans X6.out))
                have u4 := (it_cells ((hb7.block _ (Array.getElem?_eq_some_iff.1 X6.out).1).trans X6.out)).2.2.2.2
                dsimp only at u4
                have ult : wr.heap.size < w7.heap.size := World.block_lt_of_cell? w7 ⟨wr.heap.size, 4, none⟩ u4
                have un : wr.heap.size ≠ w7.heap.size := by omega
                have un2 : w7.heap.size ≠ wr.heap.size := by omega
                have y4w := cell_later B8.out u4
                rw [HW8.out] at y4w
                have CP2 := Lib.hid (place_any _ m2 id w8 F8.out.rowT (Nat.le_trans F8.out.few (by omega)))
                rw [hk] at CP2
                have e1 : plI (some k) = (k : Int) := rfl
                rw [e1] at CP2
                have HK := Lib.hid (show ∃ hkm : k < m2.length, m2[k] = (⟨p1, p2, p3, p4⟩, id) from ⟨hkm, hpk.symm⟩)
                clear hb7 hw8 IG e1 hk hki hpk hp hkm y0 y1 y2 y3 y4
                go_wp2_with fail
                rw [← HW8.out]
                refine Calls.mono CP2.out ?_
                rintro e w9 ⟨rfl, hb9⟩
                have F9 := Lib.hid (F8.out.later hb9)
                have G9 := Lib.hid ((hb9.block _ (Array.getElem?_eq_some_iff.1 G8.out).1).trans G8.out)
                have CL := Lib.hid (ix_len F9.out.iy.ix)
                unfold ptr at CL
                clear hb9 CP2
                obtain ⟨hkm, hke⟩ := HK.out
                obtain ⟨m3, hm3⟩ : ∃ m3, m3 = m2.length := ⟨_, rfl⟩
                obtain ⟨g9, c9, e9, hc9⟩ : ∃ g c, u12 = .slice (some ⟨g, 0, none⟩) m3 c ∧ ∀ (t : Nat), t < 5 → w9.cell? ⟨g, k * 5 + t, none⟩ = (itC m2[k])[t]? := by
                  obtain ⟨A, c, e, h8, h9⟩ := F9.out.rowT.form
                  obtain ⟨g, rfl⟩ := h8 (by omega)
                  exact ⟨g, c, by rw [hm3]; exact e, fun t ht => h9 g rfl w9 (Below.refl _ _) k t hkm ht⟩
                subst e9
                rw [hke] at hc9
                have x0 : w9.cell? ⟨g9, k * 5, none⟩ = some (.int .i64 p1) := hc9 0 (by omega)
                have x1 : w9.cell? ⟨g9, k * 5 + 1, none⟩ = some (.int .i64 p2) := hc9 1 (by omega)
                have x2 : w9.cell? ⟨g9, k * 5 + 2, none⟩ = some (.int .i64 p3) := hc9 2 (by omega)
                have x3 : w9.cell? ⟨g9, k * 5 + 3, none⟩ = some (.int .i64 p4) := hc9 3 (by omega)
                obtain ⟨v0, v1, v2, v3, -⟩ := rc_cells G9.out
                dsimp only at v0 v1 v2 v3
                rw [← hm3] at CL hkm
                have hkz : (k : Int) < (m3 : Int) := by omega
                have hk0 : (0 : Int) ≤ (k : Int) := by omega
                have hk00 : (k : Int) ≥ 0 := by omega
                have hnn : ((m3 : Int) != (m3 : Int)) = false := by simp
                clear hm3 hc9 hke
                go_wp2_with fail
                refine Calls.mono CL.out ?_
                rintro e w10 ⟨rfl, rfl⟩
                go_wp2_with fail
                go_quiet (fail)
                go_wp2_with fail
                go_roundw
                case rel => first | exact ⟨j + 1, m2, F2', by go_num, HJL.out, F9.out.later (below_drewN _ _)⟩ | exact ⟨j + 1, m2, F2', by go_num, HJL.out, F9.out⟩ | ((repeat apply Exists.intro); first | exact ⟨⟨j + 1, m2, F2', by go_num, HJL.out, F9.out.later (below_drewN _ _)⟩, rfl⟩ | exact ⟨⟨j + 1, m2, F2', by go_num, HJL.out, F9.out⟩, rfl⟩)
                case measure => simp [intOf]; omega
            · have hb10 : ((r10 : Int) == 0) = false := by simp; omega
              clear CA
              have IG := Lib.hid (ix_get id FC.out.iy.ix HID.out)
              unfold ptr at IG
              obtain ⟨y0, y1, y2, y3, y4⟩ := it_cells XC.out
              go_wp2_with fail
              refine Calls.mono IG.out ?_
              rintro e w7 ⟨hb7, ⟨hno, rfl⟩ | ⟨p, hp, hpi, rfl⟩⟩
              · obtain ⟨w8, hw8⟩ : ∃ v, v = w7.alloc (.cells #[.int .i64 0, .int .i64 0, .int .i64 0, .int .i64 0] 26) := ⟨_, rfl⟩
                have HW8 := Lib.hid hw8
                have B8 := Lib.hid (show Below w7.heap.size w7 w8 by rw [hw8]; exact (Below.refl _ _).alloc (Nat.le_refl _) _)
                have F8 := Lib.hid ((FC.out.later hb7).later B8.out)
                have X8 := Lib.hid ((B8.out.block _ (Array.getElem?_eq_some_iff.1 ((hb7.block _ (Array.getElem?_eq_some_iff.1 XC.out).1).trans XC.out)).1).trans ((hb7.block _ (Array.getElem?_eq_some_iff.1 XC.out).1).trans XC.out))
                have u4 := (it_cells ((hb7.block _ (Array.getElem?_eq_some_iff.1 XC.out).1).trans XC.out)).2.2.2.2
                dsimp only at u4
                have ult : wr.heap.size < w7.heap.size := World.block_lt_of_cell? w7 ⟨wr.heap.size, 4, none⟩ u4
                have un : wr.heap.size ≠ w7.heap.size := by omega
                have un2 : w7.heap.size ≠ wr.heap.size := by omega
                have y4w := cell_later B8.out u4
                rw [HW8.out] at y4w
                have CP2 := Lib.hid (place_any _ m2 id w8 F8.out.rowT (Nat.le_trans F8.out.few (by omega)))
                rw [plc_none.2 hno] at CP2
                have e1 : plI none = -1 := rfl
                rw [e1] at CP2
                clear hb7 hno hw8 IG e1 y0 y1 y2 y3 y4
                go_wp2_with fail
                rw [← HW8.out]
                refine Calls.mono CP2.out ?_
                rintro e w9 ⟨rfl, hb9⟩
                have F9 := Lib.hid (F8.out.later hb9)
                have CL := Lib.hid (ix_len F9.out.iy.ix)
                unfold ptr at CL
                clear hb9 CP2
                obtain ⟨m3, hm3⟩ : ∃ m3, m3 = m2.length := ⟨_, rfl⟩
                obtain ⟨a9, c9, e9⟩ : ∃ a c, u12 = .slice a m3 c := by
                  obtain ⟨A, c, e, -, -⟩ := F9.out.rowT.form
                  exact ⟨A, c, by rw [hm3]; exact e⟩
                subst e9
                rw [← hm3] at CL
                have hnn : ((m3 : Int) != (m3 : Int)) = false := by simp
                clear hm3
                go_wp2_with fail
                refine Calls.mono CL.out ?_
                rintro e w10 ⟨rfl, rfl⟩
                go_wp2_with fail
                go_roundw
                case rel => first | exact ⟨j + 1, m2, F2', by go_num, HJL.out, F9.out⟩ | ((repeat apply Exists.intro); exact ⟨⟨j + 1, m2, F2', by go_num, HJL.out, F9.out⟩, rfl⟩)
                case measure => simp [intOf]; omega
              · obtain ⟨k, hk⟩ := plc_has ⟨p, hp, hpi⟩
                obtain ⟨hkm, hki⟩ := plc_some hk
                have hpk : p = m2[k] := one_of FC.out.iy.ids hp (List.getElem_mem hkm) (hpi.trans hki.symm)
                obtain ⟨⟨p1, p2, p3, p4⟩, pid⟩ := p
                dsimp only at hpi
                have hpi' := hpi.symm
                subst hpi'
                obtain ⟨w8, hw8⟩ : ∃ v, v = w7.alloc (.cells (rC ⟨p1, p2, p3, p4⟩) 26) := ⟨_, rfl⟩
                have B8 := Lib.hid (show Below w7.heap.size w7 w8 by rw [hw8]; exact (Below.refl _ _).alloc (Nat.le_refl _) _)
                have G8 := Lib.hid (show w8.heap[w7.heap.size]? = some (.cells (rC ⟨p1, p2, p3, p4⟩) 26 (0, 0)) by rw [hw8]; exact (MapKept.heap_alloc w7 _).1)
                unfold rC at hw8
                dsimp only at hw8
                have HW8 := Lib.hid hw8
                have F8 := Lib.hid ((FC.out.later hb7).later B8.out)
                have X8 := Lib.hid ((B8.out.block _ (Array.getElem?_eq_some_iff.1 ((hb7.block _ (Array.getElem?_eq_some_iff.1 XC.out).1).trans XC.out)).1).trans ((hb7.block _ (Array.getElem?_eq_some_iff.1 XC.out).1).trans XC.out))
                have u4 := (it_cells ((hb7.block _ (Array.getElem?_eq_some_iff.1 XC.out).1).trans XC.out)).2.2.2.2
                dsimp only at u4
                have ult : wr.heap.size < w7.heap.size := World.block_lt_of_cell? w7 ⟨wr.heap.size, 4, none⟩ u4
                have un : wr.heap.size ≠ w7.heap.size := by omega
                have un2 : w7.heap.size ≠ wr.heap.size := by omega
                have y4w := cell_later B8.out u4
                rw [HW8.out] at y4w
                have CP2 := Lib.hid (place_any _ m2 id w8 F8.out.rowT (Nat.le_trans F8.out.few (by omega)))
                rw [hk] at CP2
                have e1 : plI (some k) = (k : Int) := rfl
                rw [e1] at CP2
                have HK := Lib.hid (show ∃ hkm : k < m2.length, m2[k] = (⟨p1, p2, p3, p4⟩, id) from ⟨hkm, hpk.symm⟩)
                clear hb7 hw8 IG e1 hk hki hpk hp hkm y0 y1 y2 y3 y4
                go_wp2_with fail
                rw [← HW8.out]
                refine Calls.mono CP2.out ?_
                rintro e w9 ⟨rfl, hb9⟩
                have F9 := Lib.hid (F8.out.later hb9)
                have G9 := Lib.hid ((hb9.block _ (Array.getElem?_eq_some_iff.1 G8.out).1).trans G8.out)
                have CL := Lib.hid (ix_len F9.out.iy.ix)
                unfold ptr at CL
                clear hb9 CP2
                obtain ⟨hkm, hke⟩ := HK.out
                obtain ⟨m3, hm3⟩ : ∃ m3, m3 = m2.length := ⟨_, rfl⟩
                obtain ⟨g9, c9, e9, hc9⟩ : ∃ g c, u12 = .slice (some ⟨g, 0, none⟩) m3 c ∧ ∀ (t : Nat), t < 5 → w9.cell? ⟨g, k * 5 + t, none⟩ = (itC m2[k])[t]? := by
                  obtain ⟨A, c, e, h8, h9⟩ := F9.out.rowT.form
                  obtain ⟨g, rfl⟩ := h8 (by omega)
                  exact ⟨g, c, by rw [hm3]; exact e, fun t ht => h9 g rfl w9 (Below.refl _ _) k t hkm ht⟩
                subst e9
                rw [hke] at hc9
                have x0 : w9.cell? ⟨g9, k * 5, none⟩ = some (.int .i64 p1) := hc9 0 (by omega)
                have x1 : w9.cell? ⟨g9, k * 5 + 1, none⟩ = some (.int .i64 p2) := hc9 1 (by omega)
                have x2 : w9.cell? ⟨g9, k * 5 + 2, none⟩ = some (.int .i64 p3) := hc9 2 (by omega)
                have x3 : w9.cell? ⟨g9, k * 5 + 3, none⟩ = some (.int .i64 p4) := hc9 3 (by omega)
                obtain ⟨v0, v1, v2, v3, -⟩ := rc_cells G9.out
                dsimp only at v0 v1 v2 v3
                rw [← hm3] at CL hkm
                have hkz : (k : Int) < (m3 : Int) := by omega
                have hk0 : (0 : Int) ≤ (k : Int) := by omega
                have hk00 : (k : Int) ≥ 0 := by omega
                have hnn : ((m3 : Int) != (m3 : Int)) = false := by simp
                clear hm3 hc9 hke
                go_wp2_with fail
                refine Calls.mono CL.out ?_
                rintro e w10 ⟨rfl, rfl⟩
                go_wp2_with fail
                go_quiet (fail)
                go_wp2_with fail
                go_roundw
                case rel => first | exact ⟨j + 1, m2, F2', by go_num, HJL.out, F9.out.later (below_drewN _ _)⟩ | exact ⟨j + 1, m2, F2', by go_num, HJL.out, F9.out⟩ | ((repeat apply Exists.intro); first | exact ⟨⟨j + 1, m2, F2', by go_num, HJL.out, F9.out.later (below_drewN _ _)⟩, rfl⟩ | exact ⟨⟨j + 1, m2, F2', by go_num, HJL.out, F9.out⟩, rfl⟩)
                case measure => simp [intOf]; omega
        · have hlz : ¬ (j : Int) < (N : Int) := by omega
          clear hlt
          have CM := Lib.hid (fun W => refMay_any px py W)
          have CR := Lib.hid (fun W => refRect_any r.x1 r.y1 r.x2 r.y2 W)
          have HPC := Lib.hid (show ∀ W, Below w0.heap.size w0 W → (W.cell? ⟨w.heap.size, 0, none⟩ = some (.int .i64 px) ∧ W.cell? ⟨w.heap.size, 1, none⟩ = some (.int .i64 py)) ∧ W.cell? ⟨w.heap.size + 1, 0, none⟩ = some (.int .i64 r.x1) ∧ W.cell? ⟨w.heap.size + 1, 1, none⟩ = some (.int .i64 r.y1) ∧ W.cell? ⟨w.heap.size + 1, 2, none⟩ = some (.int .i64 r.x2) ∧ W.cell? ⟨w.heap.size + 1, 3, none⟩ = some (.int .i64 r.y2) from fun W hb => by
            have h1 := (hb.block w.heap.size (by rw [SZ.out]; omega)).trans BP.out
            have h2 := (hb.block (w.heap.size + 1) (by rw [SZ.out]; omega)).trans BR.out
            obtain ⟨k0, k1, k2, k3, -⟩ := rc_cells h2
            exact ⟨⟨by simp [World.cell?, h1], by simp [World.cell?, h1]⟩, k0, k1, k2, k3⟩)
          have hm250 : m.length ≤ 250 := by have := FI.out.few; omega
          obtain ⟨mp, hmp⟩ : ∃ b, b = mayB px py := ⟨_, rfl⟩
          obtain ⟨mr, hmr⟩ : ∃ b, b = rmayB r.x1 r.y1 r.x2 r.y2 := ⟨_, rfl⟩
          rw [← hmp] at CM
          rw [← hmr] at CR
          have HMP := Lib.hid hmp
          have HMR := Lib.hid hmr
          have HM5 := Lib.hid hm250
          clear hmp hmr hm250 hj
          obtain ⟨⟨c0, c1⟩, -⟩ := HPC.out wr FI.out.below
          go_wp2_with fail
          refine Calls.mono (CM.out _) ?_
          rintro e w3 ⟨rfl, hb3⟩
          have F3 := Lib.hid (FI.out.later hb3)
          obtain ⟨⟨c0', c1'⟩, c2', c3', c4', c5'⟩ := HPC.out w3 F3.out.below
          clear hb3 c0 c1
          go_wp2_with fail
          refine Calls.mono (CR.out _) ?_
          rintro e w4 ⟨rfl, hb4⟩
          have F4 := Lib.hid (F3.out.later hb4)
          obtain ⟨⟨c0, c1⟩, c2, c3, c4, c5⟩ := HPC.out w4 F4.out.below
          clear hb4 c0' c1' c2' c3' c4' c5'
          cases mp with
          | false =>
            have AA0 := Lib.hid (show RowI w4 (.slice none 0 0) (fnL m fun r' => inB r'.x1 r'.y1 r'.x2 r'.y2 px py) by rw [at_no F4.out.iy.may HMP.out.symm]; exact ⟨0, World.ownsRow_nil _ _ _ _⟩)
            cases mr with
            | false =>
              have II := Lib.hid (show RowI w4 (.slice none 0 0) ([] : List Int) from ⟨0, World.ownsRow_nil _ _ _ _⟩)
              have CA := Lib.hid (ix_amiss F4.out.iy.ix h1 h2 (Nat.le_trans HM5.out (by omega)))
              rw [HNO.out] at CA
              unfold ptr at CA
              go_wp2_with fail
              refine Calls.mono CA.out ?_
              rintro e w7 ⟨rfl, hb7⟩
              have F7 := Lib.hid (F4.out.later hb7)
              have A7 := Lib.hid (AA0.out.later hb7)
              have I7 := Lib.hid (II.out.later hb7)
              obtain ⟨⟨c0, c1⟩, c2, c3, c4, c5⟩ := HPC.out w7 F7.out.below
              have CT := Lib.hid (iy_at px py F7.out.iy h1 h2 (Nat.le_trans HM5.out (by omega)))
              unfold ptr at CT
              clear hb7 CA
              go_wp2_with fail
              refine Calls.mono CT.out ?_
              rintro e w8 ⟨s8, rfl, hr8, hb8⟩
              have F8 := Lib.hid (F7.out.later hb8)
              have CS := Lib.hid (same_any s8 _ _ _ w8 ⟨_, hr8⟩ (A7.out.later hb8) (Nat.le_trans (fnL_len _ _) (Nat.le_trans HM5.out (by omega))) (Nat.le_trans (fnL_len _ _) (Nat.le_trans HM5.out (by omega))))
              have I8 := Lib.hid (I7.out.later hb8)
              clear hr8 hb8 CT c0 c1 c2 c3 c4 c5
              go_wp2_with fail
              refine Calls.mono CS.out ?_
              rintro e w9 ⟨he, hb9⟩
              obtain rfl : e = .returned (.bool true) := by rw [he]; simp
              have F9 := Lib.hid (F8.out.later hb9)
              have I9 := Lib.hid (I8.out.later hb9)
              obtain ⟨⟨c0, c1⟩, c2, c3, c4, c5⟩ := HPC.out w9 F9.out.below
              have CV := Lib.hid (iy_win r F9.out.iy h1 h2 (Nat.le_trans HM5.out (by omega)))
              rw [← HMR.out] at CV
              unfold ptr at CV
              clear he hb9 CS
              go_wp2_with fail
              refine Calls.mono CV.out ?_
              rintro e w10 (⟨-, rfl, hb10⟩ | ⟨h, -⟩)
              case inr => cases h
              have hr10 : RowI w10 (.slice none 0 0) ([] : List Int) := ⟨0, World.ownsRow_nil _ _ _ _⟩
              have F10 := F9
              have F11 := Lib.hid (F10.out.later hb10)
              have C11 := Lib.hid (same_any _ _ _ _ w10 hr10 (I9.out.later hb10) (by simp) (by simp))
              clear hb10 hr10 CV c0 c1 c2 c3 c4 c5
              go_wp2_with fail
              refine Calls.mono C11.out ?_
              rintro e w11 ⟨he, hb11⟩
              obtain rfl : e = .returned (.bool true) := by rw [he]; simp
              have FF := Lib.hid (B0.out.trans ((F11.out.later hb11).below.mono B0.out.size))
              clear he hb11
              go_wp2_with fail
              go_ret
              exact ⟨by simp, FF.out⟩
            | true =>
              have CW := Lib.hid (lfound_any _ m r w4 F4.out.rowT HMR.out.symm F4.out.iy.may (Nat.le_trans HM5.out (by omega)))
              rw [← win_lfd] at CW
              go_wp2_with fail
              refine Calls.mono CW.out ?_
              rintro e w6 ⟨s6, rfl, hr6, hb6⟩
              have F6 := Lib.hid (F4.out.later hb6)
              have A6 := Lib.hid (AA0.out.later hb6)
              have I6 := Lib.hid (show RowI w6 s6 (fnL m (meetB r)) from ⟨_, hr6⟩)
              clear hr6 hb6 CW
              have CA := Lib.hid (ix_amiss F6.out.iy.ix h1 h2 (Nat.le_trans HM5.out (by omega)))
              rw [HNO.out] at CA
              unfold ptr at CA
              go_wp2_with fail
              refine Calls.mono CA.out ?_
              rintro e w7 ⟨rfl, hb7⟩
              have F7 := Lib.hid (F6.out.later hb7)
              have A7 := Lib.hid (A6.out.later hb7)
              have I7 := Lib.hid (I6.out.later hb7)
              obtain ⟨⟨c0, c1⟩, c2, c3, c4, c5⟩ := HPC.out w7 F7.out.below
              have CT := Lib.hid (iy_at px py F7.out.iy h1 h2 (Nat.le_trans HM5.out (by omega)))
              unfold ptr at CT
              clear hb7 CA
              go_wp2_with fail
              refine Calls.mono CT.out ?_
              rintro e w8 ⟨s8, rfl, hr8, hb8⟩
              have F8 := Lib.hid (F7.out.later hb8)
              have CS := Lib.hid (same_any s8 _ _ _ w8 ⟨_, hr8⟩ (A7.out.later hb8) (Nat.le_trans (fnL_len _ _) (Nat.le_trans HM5.out (by omega))) (Nat.le_trans (fnL_len _ _) (Nat.le_trans HM5.out (by omega))))
              have I8 := Lib.hid (I7.out.later hb8)
              clear hr8 hb8 CT c0 c1 c2 c3 c4 c5
              go_wp2_with fail
              refine Calls.mono CS.out ?_
              rintro e w9 ⟨he, hb9⟩
              obtain rfl : e = .returned (.bool true) := by rw [he]; simp
              have F9 := Lib.hid (F8.out.later hb9)
              have I9 := Lib.hid (I8.out.later hb9)
              obtain ⟨⟨c0, c1⟩, c2, c3, c4, c5⟩ := HPC.out w9 F9.out.below
              have CV := Lib.hid (iy_win r F9.out.iy h1 h2 (Nat.le_trans HM5.out (by omega)))
              rw [← HMR.out] at CV
              unfold ptr at CV
              clear he hb9 CS
              go_wp2_with fail
              refine Calls.mono CV.out ?_
              rintro e w10 (⟨h, -⟩ | ⟨-, s10, rfl, hr, hb10⟩)
              · cases h
              have hr10 : RowI w10 s10 (fnL m (meetB r)) := ⟨_, hr⟩
              have F10 := F9
              clear hr
              have F11 := Lib.hid (F10.out.later hb10)
              have C11 := Lib.hid (same_any _ _ _ _ w10 hr10 (I9.out.later hb10) (Nat.le_trans (fnL_len _ _) (Nat.le_trans HM5.out (by omega))) (Nat.le_trans (fnL_len _ _) (Nat.le_trans HM5.out (by omega))))
              clear hb10 hr10 CV c0 c1 c2 c3 c4 c5
              go_wp2_with fail
              refine Calls.mono C11.out ?_
              rintro e w11 ⟨he, hb11⟩
              obtain rfl : e = .returned (.bool true) := by rw [he]; simp
              have FF := Lib.hid (B0.out.trans ((F11.out.later hb11).below.mono B0.out.size))
              clear he hb11
              go_wp2_with fail
              go_ret
              exact ⟨by simp, FF.out⟩
          | true =>
            have CX := Lib.hid (lfound_any _ m ⟨px, py, px, py⟩ w4 F4.out.rowT (by
              have := HMP.out.symm
              rw [mayB_iff, inR_iff, inR_iff] at this
              exact rmayB_mk (by dsimp only; omega)) F4.out.iy.may (Nat.le_trans HM5.out (by omega)))
            rw [← at_lfd] at CX
            dsimp only at CX
            go_wp2_with fail
            refine Calls.mono CX.out ?_
            rintro e w5 ⟨s5, rfl, hr5, hb5⟩
            have F5 := Lib.hid (F4.out.later hb5)
            have A5 := Lib.hid (show RowI w5 s5 (fnL m fun r' => inB r'.x1 r'.y1 r'.x2 r'.y2 px py) from ⟨_, hr5⟩)
            obtain ⟨⟨c0', c1'⟩, c2', c3', c4', c5'⟩ := HPC.out w5 F5.out.below
            clear hr5 hb5 CX c0 c1 c2 c3 c4 c5
            cases mr with
            | false =>
              have II := Lib.hid (show RowI w5 (.slice none 0 0) ([] : List Int) from ⟨0, World.ownsRow_nil _ _ _ _⟩)
              have CA := Lib.hid (ix_amiss F5.out.iy.ix h1 h2 (Nat.le_trans HM5.out (by omega)))
              rw [HNO.out] at CA
              unfold ptr at CA
              go_wp2_with fail
              refine Calls.mono CA.out ?_
              rintro e w7 ⟨rfl, hb7⟩
              have F7 := Lib.hid (F5.out.later hb7)
              have A7 := Lib.hid (A5.out.later hb7)
              have I7 := Lib.hid (II.out.later hb7)
              obtain ⟨⟨c0, c1⟩, c2, c3, c4, c5⟩ := HPC.out w7 F7.out.below
              have CT := Lib.hid (iy_at px py F7.out.iy h1 h2 (Nat.le_trans HM5.out (by omega)))
              unfold ptr at CT
              clear hb7 CA
              go_wp2_with fail
              refine Calls.mono CT.out ?_
              rintro e w8 ⟨s8, rfl, hr8, hb8⟩
              have F8 := Lib.hid (F7.out.later hb8)
              have CS := Lib.hid (same_any s8 _ _ _ w8 ⟨_, hr8⟩ (A7.out.later hb8) (Nat.le_trans (fnL_len _ _) (Nat.le_trans HM5.out (by omega))) (Nat.le_trans (fnL_len _ _) (Nat.le_trans HM5.out (by omega))))
              have I8 := Lib.hid (I7.out.later hb8)
              clear hr8 hb8 CT c0 c1 c2 c3 c4 c5
              go_wp2_with fail
              refine Calls.mono CS.out ?_
              rintro e w9 ⟨he, hb9⟩
              obtain rfl : e = .returned (.bool true) := by rw [he]; simp
              have F9 := Lib.hid (F8.out.later hb9)
              have I9 := Lib.hid (I8.out.later hb9)
              obtain ⟨⟨c0, c1⟩, c2, c3, c4, c5⟩ := HPC.out w9 F9.out.below
              have CV := Lib.hid (iy_win r F9.out.iy h1 h2 (Nat.le_trans HM5.out (by omega)))
              rw [← HMR.out] at CV
              unfold ptr at CV
              clear he hb9 CS
              go_wp2_with fail
              refine Calls.mono CV.out ?_
              rintro e w10 (⟨-, rfl, hb10⟩ | ⟨h, -⟩)
              case inr => cases h
              have hr10 : RowI w10 (.slice none 0 0) ([] : List Int) := ⟨0, World.ownsRow_nil _ _ _ _⟩
              have F10 := F9
              have F11 := Lib.hid (F10.out.later hb10)
              have C11 := Lib.hid (same_any _ _ _ _ w10 hr10 (I9.out.later hb10) (by simp) (by simp))
              clear hb10 hr10 CV c0 c1 c2 c3 c4 c5
              go_wp2_with fail
              refine Calls.mono C11.out ?_
              rintro e w11 ⟨he, hb11⟩
              obtain rfl : e = .returned (.bool true) := by rw [he]; simp
              have FF := Lib.hid (B0.out.trans ((F11.out.later hb11).below.mono B0.out.size))
              clear he hb11
              go_wp2_with fail
              go_ret
              exact ⟨by simp, FF.out⟩
            | true =>
              have CW := Lib.hid (lfound_any _ m r w5 F5.out.rowT HMR.out.symm F5.out.iy.may (Nat.le_trans HM5.out (by omega)))
              rw [← win_lfd] at CW
              go_wp2_with fail
              refine Calls.mono CW.out ?_
              rintro e w6 ⟨s6, rfl, hr6, hb6⟩
              have F6 := Lib.hid (F5.out.later hb6)
              have A6 := Lib.hid (A5.out.later hb6)
              have I6 := Lib.hid (show RowI w6 s6 (fnL m (meetB r)) from ⟨_, hr6⟩)
              clear hr6 hb6 CW
              have CA := Lib.hid (ix_amiss F6.out.iy.ix h1 h2 (Nat.le_trans HM5.out (by omega)))
              rw [HNO.out] at CA
              unfold ptr at CA
              go_wp2_with fail
              refine Calls.mono CA.out ?_
              rintro e w7 ⟨rfl, hb7⟩
              have F7 := Lib.hid (F6.out.later hb7)
              have A7 := Lib.hid (A6.out.later hb7)
              have I7 := Lib.hid (I6.out.later hb7)
              obtain ⟨⟨c0, c1⟩, c2, c3, c4, c5⟩ := HPC.out w7 F7.out.below
              have CT := Lib.hid (iy_at px py F7.out.iy h1 h2 (Nat.le_trans HM5.out (by omega)))
              unfold ptr at CT
              clear hb7 CA
              go_wp2_with fail
              refine Calls.mono CT.out ?_
              rintro e w8 ⟨s8, rfl, hr8, hb8⟩
              have F8 := Lib.hid (F7.out.later hb8)
              have CS := Lib.hid (same_any s8 _ _ _ w8 ⟨_, hr8⟩ (A7.out.later hb8) (Nat.le_trans (fnL_len _ _) (Nat.le_trans HM5.out (by omega))) (Nat.le_trans (fnL_len _ _) (Nat.le_trans HM5.out (by omega))))
              have I8 := Lib.hid (I7.out.later hb8)
              clear hr8 hb8 CT c0 c1 c2 c3 c4 c5
              go_wp2_with fail
              refine Calls.mono CS.out ?_
              rintro e w9 ⟨he, hb9⟩
              obtain rfl : e = .returned (.bool true) := by rw [he]; simp
              have F9 := Lib.hid (F8.out.later hb9)
              have I9 := Lib.hid (I8.out.later hb9)
              obtain ⟨⟨c0, c1⟩, c2, c3, c4, c5⟩ := HPC.out w9 F9.out.below
              have CV := Lib.hid (iy_win r F9.out.iy h1 h2 (Nat.le_trans HM5.out (by omega)))
              rw [← HMR.out] at CV
              unfold ptr at CV
              clear he hb9 CS
              go_wp2_with fail
              refine Calls.mono CV.out ?_
              rintro e w10 (⟨h, -⟩ | ⟨-, s10, rfl, hr, hb10⟩)
              · cases h
              have hr10 : RowI w10 s10 (fnL m (meetB r)) := ⟨_, hr⟩
              have F10 := F9
              clear hr
              have F11 := Lib.hid (F10.out.later hb10)
              have C11 := Lib.hid (same_any _ _ _ _ w10 hr10 (I9.out.later hb10) (Nat.le_trans (fnL_len _ _) (Nat.le_trans HM5.out (by omega))) (Nat.le_trans (fnL_len _ _) (Nat.le_trans HM5.out (by omega))))
              clear hb10 hr10 CV c0 c1 c2 c3 c4 c5
              go_wp2_with fail
              refine Calls.mono C11.out ?_
              rintro e w11 ⟨he, hb11⟩
              obtain rfl : e = .returned (.bool true) := by rw [he]; simp
              have FF := Lib.hid (B0.out.trans ((F11.out.later hb11).below.mono B0.out.size))
              clear he hb11
              go_wp2_with fail
              go_ret
              exact ⟨by simp, FF.out⟩
end Go.Proofs.YtobkgamcjfjghaaGreat.Rt
