/-
  Contract of the document's answer All: of the brokers those that own a cell of the cover, in their order. Memory that was there is left as it was.
-/
import Derived.Test.YtkkolodolmppnaaOwAll
import Derived.Test.YtkkolodolmppnaaCvRefC
namespace Go.Proofs.Ytkkolodolmppnaa.Ow
open Go.RowKit Go.Proofs.Ytkkolodolmppnaa.Pt Go.Proofs.Ytkkolodolmppnaa.Rc Go.Proofs.Ytkkolodolmppnaa.Mo Go.Proofs.Ytkkolodolmppnaa.Cv
set_option linter.unusedVariables false
set_option linter.unusedSimpArgs false

theorem A.infoOwB : (Try.prog.info? 4).map (fun i => (i.zero, i.size, i.bytes)) = some (some (.bool false), 1, 1) := by kernel_rfl
/-- Which brokers are among those. -/
def inO (l : List Int) (x : Int) : Bool := decide (x ∈ l)
def hasL (l : List Int) (b : Nat) : List Value := (List.range b).map fun (i : Nat) => .bool (inO l (i : Int))
theorem has_nil (b : Nat) : hasL [] b = List.replicate b (.bool false) := by
  unfold hasL inO
  apply List.ext_getElem
  · simp
  · intro i h1 h2
    simp
theorem has_next (l : List Int) (b m : Nat) (hm : m < b) : hasL (l ++ [(m : Int)]) b = (hasL l b).set m (.bool true) := by
  unfold hasL
  apply List.ext_getElem
  · simp
  · intro i h1 h2
    have hi : i < b := by simpa using h1
    rw [List.getElem_set]
    by_cases e : m = i
    · subst e
      simp [inO]
    · rw [if_neg e]
      simp only [List.getElem_map, List.getElem_range]
      congr 1
      unfold inO
      rw [Bool.eq_iff_iff, decide_eq_true_eq, decide_eq_true_eq, List.mem_append]
      constructor
      · rintro (h | h)
        · exact h
        · simp at h; omega
      · exact Or.inl
theorem has_at (l : List Int) (b m : Nat) (hm : m < b) : (hasL l b)[m]? = some (.bool (inO l (m : Int))) := by
  unfold hasL
  rw [List.getElem?_map, List.getElem?_range hm]
  rfl
theorem made_has (b : Nat) : (madeCells #[.bool false] b).toList = hasL [] b := by
  rw [has_nil]
  apply List.ext_getElem
  · simp [madeCells]
  · intro i h1 h2
    simp [madeCells, Nat.mod_one]
theorem row_in {W : World} {base g n o : Nat} {t : TypeId} {xs : List Value} {x : Value} (h : W.ownsRow base t 1 (.slice (some ⟨g, 0, none⟩) n n) n xs) (hc : W.cell? ⟨g, o, none⟩ = some x) : xs[o]? = some x := by
  have h0 := h
  rcases h.2 with ⟨e, _⟩ | ⟨g', cap', cur, e, _, hh, _, _, hsz, htk⟩
  · cases e
  · cases e
    have hcur : cur[o]? = some x := by
      simp only [World.cell?, hh] at hc
      simpa using hc
    have ho : o < n := by
      have := (Array.getElem?_eq_some_iff.1 hcur).1
      omega
    rw [← h0.cellAt o (by omega)]
    exact hc
theorem has_no {l : List Int} {b o : Nat} {k : IntKind} {x : Int} (h : (hasL l b)[o]? = some (.int k x)) : False := by
  unfold hasL at h
  rw [List.getElem?_map] at h
  cases hr : (List.range b)[o]? with
  | none => rw [hr] at h; cases h
  | some y => rw [hr] at h; cases h
def RaR (v w3 : World) (gh g b : Nat) (ys : List Int) (vi : Value) (wr : World) : Prop :=
  ∃ j : Nat, vi = .int .i64 j ∧ j ≤ ys.length ∧ w3.grownBy wr (some gh) ∧ wr.ownsRow v.heap.size 4 1 (.slice (some ⟨gh, 0, none⟩) b b) b (hasL ((ys.take j).map (owI g b)) b) ∧ Below v.heap.size v wr
def RbR (v : World) (b : Nat) (l : List Int) (vo vi : Value) (wr : World) : Prop :=
  ∃ j : Nat, vi = .int .i64 j ∧ j ≤ b ∧ wr.ownsRow v.heap.size 3 1 vo (ofB (inO l) j).length ((ofB (inO l) j).map (Value.int .i64)) ∧ Below v.heap.size v wr
def RefAllE (g b c1 r1 c2 r2 : Nat) (w : World) (e : Ending) (w' : World) : Prop :=
  ∃ (u : Value) (zs : List Int), e = .returned u ∧ Rise zs ∧ (∀ x, x ∈ zs ↔ ∃ i j, r1 ≤ i ∧ i ≤ r2 ∧ c1 ≤ j ∧ j ≤ c2 ∧ x = owI g b (codeI j i)) ∧ w'.ownsRow w.heap.size 3 1 u zs.length (zs.map (Value.int .i64)) ∧ Below w.heap.size w w'

set_option maxHeartbeats 4000000 in
set_option maxRecDepth 100000 in
theorem refAll_any (k b : Nat) (x1 y1 x2 y2 : Int) (c1 r1 c2 r2 : Nat) (w : World) (h1 : 24 ≤ k) (h2 : k ≤ 31) (h3 : 1 ≤ b) (h4 : b ≤ 64) (h : rmayB x1 y1 x2 y2 = true) (e1 : colI k x1 = c1) (e2 : colI k y1 = r1) (e3 : colI k x2 = c2) (e4 : colI k y2 = r2)
    (hc : c1 ≤ c2) (hr : r1 ≤ r2) (hc2 : c2 ≤ 2 ^ (31 - k)) (hr2 : r2 ≤ 2 ^ (31 - k)) :
    Calls Try.prog 12 #[.int .i64 k, .int .i64 b, .agg #[.int .i64 x1, .int .i64 y1, .int .i64 x2, .int .i64 y2]] w fun e w' => RefAllE (gF k) b c1 r1 c2 r2 w e w' := by
  have hl := lst_lt h1 h2
  have HC := Lib.hid (fun (i j : Nat) (hi : i ≤ r2) (hj : j ≤ c2) => code_le (c := j) (r := i) h1 h2 (Nat.le_trans hj hc2) (Nat.le_trans hi hr2))
  have hg := gF_lt h1 h2
  have C2 := Lib.hid (fun W => refCells_any k x1 y1 x2 y2 c1 r1 c2 r2 W h1 h2 h e1 e2 e3 e4 hc hr (by omega) (by omega))
  have C3 := Lib.hid (fun n W (hn : n ≤ 65535) => refOwner_any k b n W h1 h2 h4 hn)
  obtain ⟨g, eg⟩ : ∃ g, g = gF k := ⟨_, rfl⟩
  rw [← eg] at hg HC C3 ⊢
  obtain ⟨i0, hi, hz0, hz1, hz2⟩ := info_cut A.infoOwI
  obtain ⟨i1, hiB, hzB0, hzB1, hzB2⟩ := info_cut A.infoOwB
  have B90 : c2 ≤ 190 ∧ r2 ≤ 190 := ⟨by omega, by omega⟩
  have HHC := Lib.hid (And.intro hc hr)
  obtain ⟨v, hv⟩ : ∃ v, v = w.alloc (.cells #[.int .i64 x1, .int .i64 y1, .int .i64 x2, .int .i64 y2] 25) := ⟨_, rfl⟩
  have HV := Lib.hid (show Below w.heap.size w v ∧ w.heap.size ≤ v.heap.size by rw [hv]; exact ⟨(Below.refl _ _).alloc (Nat.le_refl _) _, by simp⟩)
  have K0 := Lib.hid (show v.cell? ⟨w.heap.size, 0, none⟩ = some (.int .i64 x1) ∧ v.cell? ⟨w.heap.size, 1, none⟩ = some (.int .i64 y1) ∧ v.cell? ⟨w.heap.size, 2, none⟩ = some (.int .i64 x2) ∧ v.cell? ⟨w.heap.size, 3, none⟩ = some (.int .i64 y2) by rw [hv]; exact (Four.new w x1 y1 x2 y2 25).2)
  have HE := Lib.hid hv
  clear hv eg h1 h2 e1 e2 e3 e4 h hc hr hc2 hr2
  have hb1 : (b : Int) ≤ 64 := by omega
  go_enter Try.func12, Try.ntmps12
  go_wp2_with (first | (at_make; rw [← HE.out]; refine wpList_make_full _ rfl _ _ 60 rfl v.heap.size 4 i1 (.bool false) 1 Try.underlying60 hiB hzB0 hzB1 .i64 .i64 _ b b rfl rfl rfl rfl (by rw [hzB2]; omega) (by unfold maxLen; omega) (Nat.le_refl _) ?_))
  intro w2 hown hgrow
  have R0 := Lib.hid hown
  have B2 := Lib.hid ((Below.refl v.heap.size v).grown hgrow (Nat.le_refl _) (fun k hk => by cases hk))
  obtain ⟨z0, z1, z2, z3⟩ := K0.out
  have e0 := cell_later B2.out z0
  have e1 := cell_later B2.out z1
  have e2 := cell_later B2.out z2
  have e3 := cell_later B2.out z3
  clear hown hgrow z0 z1 z2 z3
  go_wp2_with fail
  refine (C2.out _).mono ?_
  rintro e w3 ⟨u, ps, ys, rfl, hps, hpp, hup, hrd, hb3⟩
  have R1 := Lib.hid (own_later R0.out hb3)
  have B3 := Lib.hid (B2.out.trans (hb3.mono B2.out.size))
  have YM := Lib.hid (fun x => (hpp.mem_iff (a := x)).trans (hps.2.1 x))
  have hmx : ys.length ≤ 191 * 191 := by rw [hpp.length_eq, hps.2.2]; obtain ⟨u1, u2⟩ := B90; exact Nat.mul_le_mul (by omega) (by omega)
  obtain ⟨bb, o1, cap1, rfl, hb1l, _, _, hcl⟩ := hrd
  have HCL := Lib.hid hcl
  obtain ⟨n, hn⟩ : ∃ n, n = ys.length := ⟨_, rfl⟩
  have HN := Lib.hid hn
  rw [← hn] at hmx ⊢
  obtain ⟨gh, egh⟩ : ∃ gh, gh = v.heap.size := ⟨_, rfl⟩
  have EGH := Lib.hid egh
  rw [← egh] at R1
  have HLT : Hid (gh < w3.heap.size) := Lib.hid (by rw [egh]; exact Nat.lt_of_lt_of_le (by have := R0.out.lt gh (by rw [egh]; rfl); omega) hb3.size)
  rw [← EGH.out]
  have R2 := Lib.hid (show w3.ownsRow v.heap.size 4 1 (.slice (some ⟨gh, 0, none⟩) b b) b (hasL ((ys.take 0).map (owI g b)) b) by rw [List.take_zero, List.map_nil, ← made_has, EGH.out]; have := R1.out; rw [EGH.out] at this; exact this)
  have HNE : Hid (bb ≠ gh) := Lib.hid (fun e => by have h0 : 0 < ys.length := (by rw [hpp.length_eq, hps.2.2]; obtain ⟨u1, u2⟩ := HHC.out; exact Nat.mul_pos (by omega) (by omega)); have hc := hcl 0 h0; rw [e] at hc; exact has_no (row_in R2.out hc))
  clear e0 e1 e2 e3 hps hpp hup hcl hn hb3 R0 R1 B2 K0 egh
  go_wp2_with fail
  go_loopw [9] (fun vi wr => RaR v w3 gh g b ys vi wr) (fun vi _ => n - (intOf vi).toNat)
  case atStart => exact ⟨0, rfl, Nat.zero_le _, World.grownBy.refl _ _, R2.out, B3.out⟩
  case round =>
    clear R2
    obtain ⟨j, rfl, hj, hG, hO, hB⟩ := hrel
    have HO := Lib.hid hO
    have HB := Lib.hid hB
    have HG := Lib.hid hG
    rw [← HN.out] at hj
    clear hO hB hG
    by_cases hlt : j < n
    · have hlz : (j : Int) < (n : Int) := by omega
      have hj0 : (0 : Int) ≤ (j : Int) := by omega
      have hjl : j < ys.length := by rw [← HN.out]; exact hlt
      obtain ⟨q, p, p1, p2, p3, p4, p5⟩ := (YM.out ys[j]).1 (List.getElem_mem hjl)
      have hle := HC.out p q p4 p2
      obtain ⟨N, eN⟩ : ∃ N, N = codeF 31 q p := ⟨_, rfl⟩
      rw [← eN] at hle
      have hyN : ys[j] = (N : Int) := by rw [p5, eN]; rfl
      have ca : wr.cell? ⟨bb, o1 + j, none⟩ = some (.int .u64 (N : Int)) := by
        rw [← hyN, ← HCL.out j hjl]
        exact World.cell?_of_block (w := w3) (a := ⟨bb, o1 + j, none⟩) (HG.out.block bb hb1l (fun e => HNE.out (Option.some.inj e)))
      have HT := Lib.hid (show (ys.take (j + 1)).map (owI g b) = (ys.take j).map (owI g b) ++ [((owF g b N : Nat) : Int)] by rw [List.take_succ_eq_append_getElem hjl, List.map_append, hyN, List.map_singleton, owI_nat])
      have hm := owF_lt (g := g) (b := b) h3 hle
      obtain ⟨m, em⟩ : ∃ m, m = owF g b N := ⟨_, rfl⟩
      have C4 := Lib.hid (C3.out N wr (by omega))
      rw [← em] at hm HT C4
      have hm0 : (0 : Int) ≤ (m : Int) := by omega
      have hmb : (m : Int) < (b : Int) := by omega
      have len : (hasL ((ys.take j).map (owI g b)) b).length = b * 1 := HO.out.1
      have t0 := (HO.out.cellAt m (by omega)).trans (has_at _ b m hm)
      have tf := HO.out.frozenAt
      have HM := Lib.hid hm
      clear p1 p2 p3 p4 p5 eN hyN em hm len
      go_wp2_with fail
      refine C4.out.mono ?_
      rintro e w4 ⟨rfl, rfl⟩
      go_wp2_with fail
      go_roundw
      case rel =>
        refine ⟨j + 1, by first | rfl | simp, by rw [← HN.out]; omega, HG.out.trans (HO.out.stored m (.bool true)).2, ?_, HB.out.setCell (by rw [EGH.out]; exact Nat.le_refl _) _⟩
        rw [HT.out, has_next _ b m HM.out]
        exact (HO.out.stored m (.bool true)).1
      case measure => simp [intOf]; omega
    · have hlz : ¬ (j : Int) < (n : Int) := by omega
      have hjn : j = ys.length := by rw [← HN.out]; omega
      have hO := HO.out
      rw [List.take_of_length_le (by omega)] at hO
      obtain ⟨l, el⟩ : ∃ l, l = ys.map (owI g b) := ⟨_, rfl⟩
      rw [← el] at hO
      have HL := Lib.hid hO
      have EL := Lib.hid el
      have HW := Lib.hid (World.ownsRow_nil wr wr.heap.size 3 1)
      clear hO HO HG el hjn hj hlt
      go_wp2_with fail
      go_loopw [11, 12] (fun vo vi w5 => RbR wr b l vo vi w5) (fun _ vi _ => b - (intOf vi).toNat)
      case atStart => exact ⟨0, rfl, Nat.zero_le _, World.ownsRow_nil _ _ _ _, Below.refl _ _⟩
      case round =>
        obtain ⟨j, rfl, hj, hO, hB5⟩ := hrel
        have HO := Lib.hid hO
        have HB5 := Lib.hid hB5
        clear hO hB5
        by_cases hlt : j < b
        · have hlz : (j : Int) < (b : Int) := by omega
          have hj0 : (0 : Int) ≤ (j : Int) := by omega
          obtain ⟨y, ey⟩ : ∃ y, y = inO l (j : Int) := ⟨_, rfl⟩
          have cb : wr.cell? ⟨gh, j, none⟩ = some (.bool y) := by rw [ey]; exact ((own_later HL.out HB5.out).cellAt j (by omega)).trans (has_at l b j hlt)
          have HS := Lib.hid (ofB_succ (inO l) j)
          obtain ⟨ls, els⟩ : ∃ ls, ls = ofB (inO l) j := ⟨_, rfl⟩
          have hls : ls.length ≤ 64 := by rw [els]; unfold ofB; exact Nat.le_trans (List.length_filter_le _ _) (by simp; omega)
          rw [← els] at HO
          rw [← ey, ← els] at HS
          obtain ⟨nl, enl⟩ : ∃ nl, nl = ls.length := ⟨_, rfl⟩
          obtain ⟨XS, hXS⟩ : ∃ XS, XS = ls.map (Value.int .i64) := ⟨_, rfl⟩
          rw [← enl, ← hXS] at HO
          rw [← enl] at hls
          have NL := Lib.hid enl
          have HXS := Lib.hid hXS
          clear els ey enl hXS
          cases y
          · go_wp2_with fail
            go_roundw
            case rel => first | exact ⟨j + 1, by first | rfl | simp, by omega, by rw [HS.out, if_neg (by decide), List.append_nil, ← NL.out, ← HXS.out]; exact HO.out, HB5.out⟩ | ((repeat apply Exists.intro); exact ⟨⟨j + 1, by first | rfl | simp, by omega, by rw [HS.out, if_neg (by decide), List.append_nil, ← NL.out, ← HXS.out]; exact HO.out, HB5.out⟩, rfl⟩)
            case measure => simp [intOf]; omega
          · have OW := Lib.hid (HO.out.alloc (.cells #[.int .i64 (j : Int)] 3))
            have BW := Lib.hid (HB5.out.alloc HB5.out.size (.cells #[.int .i64 (j : Int)] 3))
            have NW := Lib.hid (cell_one_new wr (.int .i64 (j : Int)) 3)
            go_wp2_with (first | (at_builtin; refine wpList_append_own_at _ rfl _ _ 34 rfl _ 3 i0 (.int .i64 0) 1 8 Try.underlying34 hi hz0 hz1 hz2 rfl (by decide) _ _ _ rfl OW.out ⟨wr.heap.size, 0, none⟩ 1 1 [.int .i64 (j : Int)] rfl rfl NW.out (oneI [(j : Int)]) (by unfold maxLen; omega) (by omega) BW.out.size ?_))
            intro v1 w6 hown hgrow _ _
            have HBn := Lib.hid (own_below BW.out OW.out hgrow)
            have HOn := Lib.hid hown
            clear hown hgrow
            go_wp2
            go_roundw
            case rel => first | exact ⟨j + 1, by first | rfl | simp, by omega, by rw [HS.out, if_pos trivial, List.map_append, ← HXS.out, List.length_append, ← NL.out]; exact HOn.out, HBn.out⟩ | ((repeat apply Exists.intro); exact ⟨⟨j + 1, by first | rfl | simp, by omega, by rw [HS.out, if_pos trivial, List.map_append, ← HXS.out, List.length_append, ← NL.out]; exact HOn.out, HBn.out⟩, rfl⟩)
            case measure => simp [intOf]; omega
        · have hlz2 : ¬ (j : Int) < (b : Int) := by omega
          have hjb : j = b := by omega
          rw [hjb] at HO
          have HM : Hid (∀ x, x ∈ ofB (inO l) b ↔ ∃ i j, r1 ≤ i ∧ i ≤ r2 ∧ c1 ≤ j ∧ j ≤ c2 ∧ x = owI g b (codeI j i)) := Lib.hid (fun x => by
            have hlb : ∀ y, y ∈ l ↔ ∃ i j, r1 ≤ i ∧ i ≤ r2 ∧ c1 ≤ j ∧ j ≤ c2 ∧ y = owI g b (codeI j i) := by
              intro y
              rw [EL.out, List.mem_map]
              constructor
              · rintro ⟨z, hz, rfl⟩
                obtain ⟨q, p, a1, a2, a3, a4, a5⟩ := (YM.out z).1 hz
                exact ⟨p, q, a3, a4, a1, a2, by rw [a5]⟩
              · rintro ⟨p, q, a3, a4, a1, a2, a5⟩
                exact ⟨codeI q p, (YM.out _).2 ⟨q, p, a1, a2, a3, a4, rfl⟩, a5.symm⟩
            rw [ofB_mem, ← hlb]
            unfold inO
            rw [decide_eq_true_eq]
            constructor
            · exact fun h => h.2
            · intro h
              refine ⟨?_, h⟩
              obtain ⟨p, q, a3, a4, a1, a2, a5⟩ := (hlb x).1 h
              have := owF_lt (g := g) (b := b) h3 (HC.out p q a4 a2)
              exact ⟨owF g b (codeF 31 q p), this, by rw [a5]; exact owI_nat g b _⟩)
          obtain ⟨gz, egz⟩ : ∃ gz, gz = w.heap.size := ⟨_, rfl⟩
          have HF := Lib.hid (show w.heap.size ≤ v.heap.size from HV.out.2)
          have HBW := Lib.hid (HV.out.1.trans (HB.out.mono HV.out.2))
          have HZ := Lib.hid (Nat.le_trans HV.out.2 HB.out.size)
          clear hjb hj hlt egz
          go_wp2_with fail
          go_ret
          unfold RefAllE
          exact ⟨_, ofB (inO l) b, rfl, ofB_rise _ _, HM.out, own_wide HO.out HZ.out, HBW.out.trans (HB5.out.mono HZ.out)⟩
end Go.Proofs.Ytkkolodolmppnaa.Ow
