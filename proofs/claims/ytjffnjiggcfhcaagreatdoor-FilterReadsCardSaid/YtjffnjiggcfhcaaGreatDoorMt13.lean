/-
  Contract of leaf of package filter's reader. Memory that was there is left as it was, but for what the reader has left.
-/
import Derived.Test.YtjffnjiggcfhcaaGreatDoorMt11
import Derived.Test.YtjffnjiggcfhcaaGreatDoorMt08
import Derived.Great.BuildSlice
namespace Go.Proofs.YtjffnjiggcfhcaaGreatDoor.Fl
open Go.RowKit Go.Proofs.YtjffnjiggcfhcaaGreatDoor.Tk
set_option linter.unusedVariables false
set_option linter.unusedSimpArgs false

theorem leaf_in {t : Tc} {r r1 : List Tc} (hk : t.kind = 1) (h : takes wIn r = some r1) : leafP (t :: r) = match valuesT r1 with | none => none | some (vs, r4) => if sortB vs = true then some (.mk 6 t.str [] vs [], r4) else none := by
  rw [show leafP (t :: r) = if t.kind = 1 then _ else none from rfl, if_pos hk, h]
  simp only
  rw [valuesT]
  cases h1 : takes sOpen r1 with
  | none => rfl
  | some r2 =>
    simp only
    rw [goV]
    cases h2 : valP r2 with
    | none => rfl
    | some x =>
      obtain ⟨v, r3⟩ := x
      simp only
      rw [vals_sort]
      cases h3 : vsP (r3.length + 1) r3 with
      | none => rfl
      | some y =>
        obtain ⟨us, r4⟩ := y
        simp only [List.nil_append]
        by_cases ha : (us.all fun u => u.text == v.text) = true
        · rw [if_pos ha]
          exact (if_pos (show sortB (v :: us) = true from ha)).symm
        · rw [if_neg ha]
          exact (if_neg (show ¬ sortB (v :: us) = true from ha)).symm
def opT (n : List UInt8) : List Tc → Option (Flt × List Tc)
  | [] => none
  | o :: r1 => if o.kind = 5 ∧ opB o.str = true then (match valP r1 with | none => none | some (v, r2) => some (.mk 4 n o.str [v] [], r2)) else none
theorem leaf_op {t : Tc} {r : List Tc} (hk : t.kind = 1) (hi : takes wIn r = none) (hp : takes sPre r = none) : leafP (t :: r) = opT t.str r := by
  rw [show leafP (t :: r) = if t.kind = 1 then _ else none from rfl, if_pos hk, hi]
  simp only [hp]
  cases r <;> rfl
theorem leaf_pre {t : Tc} {r r1 : List Tc} (hk : t.kind = 1) (h : takes sPre r = some r1) : leafP (t :: r) = match valP r1 with | none => none | some (v, r2) => if v.text then some (.mk 5 t.str [] [v] [], r2) else none := by
  have hi : takes wIn r = none := by
    match r, h with
    | x :: l, h =>
      have e : ∀ s, takes s (x :: l) = if (x.kind = 2 ∨ x.kind = 5) ∧ x.str = s then some l else none := fun s => rfl
      rw [e] at h ⊢
      split at h
      · rename_i hx
        rw [if_neg (fun h2 => by rw [hx.2] at h2; exact absurd h2.2 (by decide))]
      · cases h
  rw [show leafP (t :: r) = if t.kind = 1 then _ else none from rfl, if_pos hk, hi]
  simp only [h]
  cases valP r1 with
  | none => rfl
  | some x => rfl
set_option maxHeartbeats 8000000 in
set_option maxRecDepth 100000 in
theorem leaf_any (ts : List Tok) (hg : ∀ t ∈ ts, TG t) (hl : ts.length ≤ 600) (p z : Nat) (hz : z ≤ p) (w : World) (hR : RdAt w p z ts) :
    Calls Tryz.prog 88 #[.pointer (some ⟨p, 0, none⟩)] w fun e w' => RdEnd (leafP (ts.map core)) ts p z w w' e := by
  have hp : p < w.heap.size := hR.lt
  have hpne : ¬ w.heap.size = p := by omega
  obtain ⟨w1, hw1⟩ : ∃ v, v = w.alloc (.cells #[.int .i64 0, .string ⟨#[]⟩, .string ⟨#[]⟩, .slice none 0 0, .slice none 0 0] 25) := ⟨_, rfl⟩
  have HW := Lib.hid hw1
  have G1 := Lib.hid (show w.grownBy w1 (some p) by rw [hw1]; exact gr_alloc (gr_refl _ _) _)
  have X1 := Lib.hid (show Rw w1 w.heap.size #[.int .i64 0, .string ⟨#[]⟩, .string ⟨#[]⟩, .slice none 0 0, .slice none 0 0] by rw [hw1]; exact Rw.new ..)
  have CN := Lib.hid (next_any ts hl p z hz w1 (by rw [hw1]; exact hR.alloc hz _))
  have HG := Lib.hid hg
  have HLN := Lib.hid hl
  clear hw1 hR hg hl
  go_enter Tryz.func88, Tryz.ntmps88
  go_wp2_with fail
  rw [← HW.out]
  refine Calls.mono CN.out ?_
  rintro e w2 ⟨hg2, ⟨hts, rfl, _⟩ | ⟨t, r, hts, rfl, hr2⟩⟩
  · have G2 := Lib.hid (G1.out.trans hg2)
    have HN := Lib.hid (show leafP (ts.map core) = none by rw [hts]; rfl)
    have X2 := Lib.hid (X1.out.gr hg2 hpne)
    clear hg2 hts
    go_wp2_with (skip; (refine wpList_store_rowTo rfl _ _ _ rfl rfl w.heap.size _ rfl rfl _ #[.int .i64 0, .string ⟨#[]⟩, .string ⟨#[]⟩, .slice none 0 0, .slice none 0 0] (by first | exact X2.out | exact Rw.alloc X2.out _ | exact Rw.alloc2 X2.out _ _ | exact Rw.alloc3 X2.out _ _ _) (by kernel_rfl) rfl (by simp [Value.oneCell']) ?_))
    refine ret5 Tryz.results88 rfl rfl ((X2.out.alloc _).set _).box rfl ?_
    exact ⟨gr_row (gr_alloc G2.out _) (Nat.le_refl _) _, Or.inl ⟨HN.out, _, _, _, _, _, _, _, _, _, rfl⟩⟩
  · have G2 := Lib.hid (G1.out.trans hg2)
    have X2 := Lib.hid (X1.out.gr hg2 hpne)
    have HTS := Lib.hid hts
    have HR2 := Lib.hid hr2
    have HTG := Lib.hid (HG.out t (by rw [hts]; exact List.mem_cons_self ..))
    have HRM := Lib.hid (show ∀ x ∈ r, x ∈ ts by rw [hts]; exact fun x hx => List.mem_cons_of_mem _ hx)
    have HRL := Lib.hid (show r.length ≤ 600 by have := HLN.out; rw [hts] at this; simp at this; omega)
    have HP2 := Lib.hid (show p < w2.heap.size ∧ w.heap.size < w2.heap.size from ⟨hr2.lt, X2.out.lt⟩)
    obtain ⟨k, hk⟩ : ∃ x, x = t.kind := ⟨_, rfl⟩
    obtain ⟨ps, hps⟩ : ∃ x, x = t.pos := ⟨_, rfl⟩
    obtain ⟨nm, hnm⟩ : ∃ x, x = t.num := ⟨_, rfl⟩
    obtain ⟨sn, esn, hsn⟩ := bs_bytes t.str
    have HK := Lib.hid (And.intro hk (And.intro esn hsn))
    rw [← hk, ← hps, ← hnm, esn]
    clear hg2 hts hr2 hk hps hnm esn hsn
    by_cases hk1 : k = 1
    case neg =>
      have HN := Lib.hid (show leafP (ts.map core) = none by rw [HTS.out]; exact if_neg (show ¬ (core t).kind = 1 from fun e => hk1 (HK.out.1.trans e)))
      go_wp2_with (skip; (refine wpList_store_rowTo rfl _ _ _ rfl rfl w.heap.size _ rfl rfl _ #[.int .i64 0, .string ⟨#[]⟩, .string ⟨#[]⟩, .slice none 0 0, .slice none 0 0] (by first | exact X2.out | exact Rw.alloc X2.out _ | exact Rw.alloc2 X2.out _ _ | exact Rw.alloc3 X2.out _ _ _) (by kernel_rfl) rfl (by simp [Value.oneCell']) ?_))
      refine ret5 Tryz.results88 rfl rfl ((X2.out.alloc _).set _).box rfl ?_
      exact ⟨gr_row (gr_alloc G2.out _) (Nat.le_refl _) _, Or.inl ⟨HN.out, _, _, _, _, _, _, _, _, _, rfl⟩⟩
    case pos =>
      subst hk1
      obtain ⟨w3, hw3⟩ : ∃ v, v = w2.alloc (.cells #[.int .i64 1, .int .i64 (ps : Nat), .int .i64 nm, .string sn] 71) := ⟨_, rfl⟩
      have HW3 := Lib.hid hw3
      have X3 := Lib.hid (show Rw w3 w.heap.size #[.int .i64 0, .string ⟨#[]⟩, .string ⟨#[]⟩, .slice none 0 0, .slice none 0 0] by rw [hw3]; exact X2.out.alloc _)
      have T3 := Lib.hid (show Blk w3 w2.heap.size (.int .i64 1) (.int .i64 (ps : Nat)) (.int .i64 nm) (.string sn) by rw [hw3]; exact Blk.new ..)
      have G3 := Lib.hid (show w.grownBy w3 (some p) by rw [hw3]; exact gr_alloc G2.out _)
      have R3 := Lib.hid (show RdAt w3 p z r by rw [hw3]; exact HR2.out.alloc hz _)
      have HRG := Lib.hid (show ∀ x ∈ r, TG x from fun x hx => HG.out x (HRM.out x hx))
      have CP := Lib.hid (take_any ⟨#[94, 61]⟩ 5 (fun t h => sign_kd (s := [94, 61]) (by decide) (by decide) t h) r HRG.out HRL.out p z hz w3 R3.out)
      have CI := Lib.hid (take_any ⟨#[105, 110]⟩ 2 (fun t h => word_kd (s := [105, 110]) (by decide) (by decide) t h) r HRG.out HRL.out p z hz w3 R3.out)
      have CX := Lib.hid (next_any r HRL.out p z hz w3 R3.out)
      have hbp : ¬ w2.heap.size = p := by have := HP2.out; omega
      have hbq : ¬ w2.heap.size = w.heap.size := by have := HP2.out; omega
      clear hw3
      go_wp2_with fail
      rw [← HW3.out]
      refine Calls.mono CP.out ?_
      rintro e w4 (⟨hn, rfl, rfl⟩ | ⟨t1, r1, hr1, hy, rfl, hg4, hrd4⟩)
      · have HSP := Lib.hid (show takes sPre (r.map core) = none from hn)
        clear hn
        go_wp2_with fail
        refine Calls.mono CI.out ?_
        rintro e w4 (⟨hi, rfl, rfl⟩ | ⟨t1, r1, hr1, hy, rfl, hg4, hrd4⟩)
        · have HIN := Lib.hid (show takes wIn (r.map core) = none from hi)
          clear hi
          go_wp2_with fail
          refine Calls.mono CX.out ?_
          rintro e w4 ⟨hg4, ⟨hr0, rfl, _⟩ | ⟨t1, r1, hr1, rfl, hrd4⟩⟩
          · have HN := Lib.hid (show leafP (ts.map core) = none by rw [HTS.out]; exact (leaf_op (t := core t) HK.out.1.symm HIN.out HSP.out).trans (by rw [hr0]; rfl))
            have X4 := Lib.hid (X3.out.gr hg4 hpne)
            have G4 := Lib.hid (G3.out.trans hg4)
            clear hr0 hg4
            go_wp2_with (skip; (refine wpList_store_rowTo rfl _ _ _ rfl rfl w.heap.size _ rfl rfl _ #[.int .i64 0, .string ⟨#[]⟩, .string ⟨#[]⟩, .slice none 0 0, .slice none 0 0] (by first | exact X4.out | exact Rw.alloc X4.out _ | exact Rw.alloc2 X4.out _ _ | exact Rw.alloc3 X4.out _ _ _) (by kernel_rfl) rfl (by simp [Value.oneCell']) ?_))
            refine ret5 Tryz.results88 rfl rfl ((X4.out.alloc _).set _).box rfl ?_
            exact ⟨gr_row (gr_alloc G4.out _) (Nat.le_refl _) _, Or.inl ⟨HN.out, _, _, _, _, _, _, _, _, _, rfl⟩⟩
          · have HL := Lib.hid (show leafP (ts.map core) = if t1.kind = 5 ∧ opB t1.str = true then (match valP (r1.map core) with | none => none | some (v, r2) => some (.mk 4 t.str t1.str [v] [], r2)) else none by rw [HTS.out]; exact (leaf_op (t := core t) HK.out.1.symm HIN.out HSP.out).trans (by rw [hr1]; rfl))
            have HM1 := Lib.hid (show ∀ x ∈ r1, x ∈ ts from fun x hx => HRM.out x (by rw [hr1]; exact List.mem_cons_of_mem _ hx))
            have HL1 := Lib.hid (show r1.length ≤ 600 by have := HRL.out; rw [hr1] at this; simp at this; omega)
            have HT1 := Lib.hid (HG.out t1 (HRM.out t1 (by rw [hr1]; exact List.mem_cons_self ..)))
            have X4 := Lib.hid (X3.out.gr hg4 hpne)
            have T4 := Lib.hid (blk_gr T3.out hg4 hbp)
            have G4 := Lib.hid (G3.out.trans hg4)
            have R4 := Lib.hid hrd4
            obtain ⟨k1, hk1⟩ : ∃ x, x = t1.kind := ⟨_, rfl⟩
            obtain ⟨ps1, hps1⟩ : ∃ x, x = t1.pos := ⟨_, rfl⟩
            obtain ⟨nm1, hnm1⟩ : ∃ x, x = t1.num := ⟨_, rfl⟩
            obtain ⟨s1, es1, hs1⟩ := bs_bytes t1.str
            have HK1 := Lib.hid (And.intro hk1 (And.intro es1 hs1))
            rw [← hk1, ← hps1, ← hnm1, es1]
            have HP4 := Lib.hid (show p < w4.heap.size ∧ w.heap.size < w4.heap.size ∧ w2.heap.size < w4.heap.size from ⟨hrd4.lt, X4.out.lt, T4.out.2.2.2.2.2⟩)
            clear hg4 hr1 hrd4 hk1 hps1 hnm1 es1 hs1
            by_cases hk5 : k1 = 5
            case neg =>
              have HN := Lib.hid (show leafP (ts.map core) = none by rw [HL.out, if_neg (fun h => hk5 (HK1.out.1.trans h.1))])
              have hkb : (k1 != 5) = true := by simpa using hk5
              go_wp2_with (skip; (refine wpList_store_rowTo rfl _ _ _ rfl rfl w.heap.size _ rfl rfl _ #[.int .i64 0, .string ⟨#[]⟩, .string ⟨#[]⟩, .slice none 0 0, .slice none 0 0] (by first | exact X4.out | exact Rw.alloc X4.out _ | exact Rw.alloc2 X4.out _ _ | exact Rw.alloc3 X4.out _ _ _) (by kernel_rfl) rfl (by simp [Value.oneCell']) ?_))
              refine ret5 Tryz.results88 rfl rfl ((X4.out.alloc _).set _).box rfl ?_
              exact ⟨gr_row (gr_alloc G4.out _) (Nat.le_refl _) _, Or.inl ⟨HN.out, _, _, _, _, _, _, _, _, _, rfl⟩⟩
            case pos =>
              subst hk5
              obtain ⟨ob, hob⟩ : ∃ x, x = opB s1.data.toList := ⟨_, rfl⟩
              have HOB := Lib.hid (hob.trans (congrArg opB HK1.out.2.2))
              have CO := Lib.hid (show ∀ V, Calls Tryz.prog 51 #[.string s1] V fun e w' => e = .returned (.bool ob) ∧ V = w' from fun V => hob ▸ isOp_any s1 V)
              obtain ⟨w5, hw5⟩ : ∃ v, v = w4.alloc (.cells #[.int .i64 5, .int .i64 (ps1 : Nat), .int .i64 nm1, .string s1] 71) := ⟨_, rfl⟩
              have HW5 := Lib.hid hw5
              have X5 := Lib.hid (show Rw w5 w.heap.size #[.int .i64 0, .string ⟨#[]⟩, .string ⟨#[]⟩, .slice none 0 0, .slice none 0 0] by rw [hw5]; exact X4.out.alloc _)
              have T5 := Lib.hid (show Blk w5 w2.heap.size (.int .i64 1) (.int .i64 (ps : Nat)) (.int .i64 nm) (.string sn) by rw [hw5]; exact T4.out.later ((Below.refl _ _).alloc (Nat.le_refl _) _))
              have U5 := Lib.hid (show Blk w5 w4.heap.size (.int .i64 5) (.int .i64 (ps1 : Nat)) (.int .i64 nm1) (.string s1) by rw [hw5]; exact Blk.new ..)
              have G5 := Lib.hid (show w.grownBy w5 (some p) by rw [hw5]; exact gr_alloc G4.out _)
              have R5 := Lib.hid (show RdAt w5 p z r1 by rw [hw5]; exact R4.out.alloc hz _)
              have CV := Lib.hid (value_any r1 HL1.out p z hz w5 R5.out)
              have hb4p : ¬ w4.heap.size = p := by have := HP4.out; omega
              clear hob hw5
              cases ob with
              | false =>
                have HN := Lib.hid (show leafP (ts.map core) = none by rw [HL.out, if_neg (fun h => by rw [← HOB.out] at h; exact absurd h.2 (by decide))])
                go_wp2_with fail
                refine Calls.mono (CO.out _) ?_
                rintro e V ⟨rfl, rfl⟩
                go_wp2_with (skip; (refine wpList_store_rowTo rfl _ _ _ rfl rfl w.heap.size _ rfl rfl _ #[.int .i64 0, .string ⟨#[]⟩, .string ⟨#[]⟩, .slice none 0 0, .slice none 0 0] (by first | exact X4.out | exact Rw.alloc X4.out _ | exact Rw.alloc2 X4.out _ _ | exact Rw.alloc3 X4.out _ _ _) (by kernel_rfl) rfl (by simp [Value.oneCell']) ?_))
                refine ret5 Tryz.results88 rfl rfl ((X4.out.alloc _).set _).box rfl ?_
                exact ⟨gr_row (gr_alloc G4.out _) (Nat.le_refl _) _, Or.inl ⟨HN.out, _, _, _, _, _, _, _, _, _, rfl⟩⟩
              | true =>
                have HL2 := Lib.hid (show leafP (ts.map core) = (match valP (r1.map core) with | none => none | some (v, r2) => some (.mk 4 t.str t1.str [v] [], r2)) by rw [HL.out, if_pos ⟨HK1.out.1.symm, HOB.out.symm⟩])
                go_wp2_with fail
                refine Calls.mono (CO.out _) ?_
                rintro e V ⟨rfl, rfl⟩
                go_wp2_with fail
                rw [← HW5.out]
                refine Calls.mono CV.out ?_
                rintro e w6 ⟨hg6, ⟨hv, rfl, _⟩ | ⟨t2, r2, v, hts2, hv, rfl, hr6⟩⟩
                · have HN := Lib.hid (show leafP (ts.map core) = none by rw [HL2.out, hv])
                  have X6 := Lib.hid (X5.out.gr hg6 hpne)
                  have G6 := Lib.hid (G5.out.trans hg6)
                  obtain ⟨_, _, _, a3, _, al⟩ := blk_gr T5.out hg6 hbp
                  obtain ⟨_, _, _, b3, _, bl⟩ := blk_gr U5.out hg6 hb4p
                  clear hv hg6
                  rw [show bs [] = .string ⟨#[]⟩ from rfl]
                  go_wp2_with (skip; (refine wpList_store_rowTo rfl _ _ _ rfl rfl w.heap.size _ rfl rfl _ #[.int .i64 0, .string ⟨#[]⟩, .string ⟨#[]⟩, .slice none 0 0, .slice none 0 0] (by first | exact X6.out | exact Rw.alloc X6.out _ | exact Rw.alloc2 X6.out _ _ | exact Rw.alloc3 X6.out _ _ _) (by kernel_rfl) rfl (by simp [Value.oneCell']) ?_))
                  refine ret5 Tryz.results88 rfl rfl ((X6.out.alloc2 _ _).set _).box rfl ?_
                  exact ⟨gr_row (gr_alloc (gr_alloc G6.out _) _) (Nat.le_refl _) _, Or.inl ⟨HN.out, _, _, _, _, _, _, _, _, _, rfl⟩⟩
                · have HY := Lib.hid (show leafP (ts.map core) = some (.mk 4 t.str t1.str [v] [], r2.map core) by rw [HL2.out, hv])
                  have X6 := Lib.hid (X5.out.gr hg6 hpne)
                  have G6 := Lib.hid (G5.out.trans hg6)
                  have R6 := Lib.hid hr6
                  have HM2 := Lib.hid (show ∀ x ∈ r2, x ∈ ts from fun x hx => HM1.out x (by rw [hts2]; exact List.mem_cons_of_mem _ hx))
                  have HVO := Lib.hid (val_ok (fun x hx => HG.out x (HM1.out x hx)) hv)
                  obtain ⟨_, _, _, a3, _, al⟩ := blk_gr T5.out hg6 hbp
                  obtain ⟨_, _, _, b3, _, bl⟩ := blk_gr U5.out hg6 hb4p
                  obtain ⟨vn, evn, _⟩ := bs_bytes v.name
                  obtain ⟨vt, evt, _⟩ := bs_bytes v.str
                  obtain ⟨tx, htx⟩ : ∃ x, x = v.text := ⟨_, rfl⟩
                  obtain ⟨nv, hnv⟩ : ∃ x, x = v.num := ⟨_, rfl⟩
                  have HAC := Lib.hid (show attC v = [.string vn, .bool tx, .int .i64 nv, .string vt] by rw [attC, evn, evt, htx, hnv])
                  rw [evn, evt, ← htx, ← hnv]
                  clear hv hg6 hr6 hts2 evn evt htx hnv
                  go_wp2_with (skip; (refine wpList_store_rowTo rfl _ _ _ rfl rfl w.heap.size _ rfl rfl _ #[.int .i64 0, .string ⟨#[]⟩, .string ⟨#[]⟩, .slice none 0 0, .slice none 0 0] (by first | exact X6.out | exact Rw.alloc X6.out _ | exact Rw.alloc2 X6.out _ _ | exact Rw.alloc3 X6.out _ _ _) (by kernel_rfl) rfl (by simp [Value.oneCell']) ?_))
                  refine ret5 Tryz.results88 rfl rfl ((X6.out.alloc2 _ _).set _).box rfl ?_
                  have ha := att_new (W := w6.alloc (.cells #[.string vn, .bool tx, .int .i64 nv, .string vt] 47)) (z := w.heap.size + 1) v HVO.out (by have := X6.out.lt; simp; omega) _ _ _ _ HAC.out
                  rw [show (w6.alloc (.cells #[.string vn, .bool tx, .int .i64 nv, .string vt] 47)).heap.size = w6.heap.size + 1 by simp] at ha
                  exact ⟨gr_row (gr_alloc (gr_alloc G6.out _) _) (Nat.le_refl _) _, Or.inr ⟨_, r2, some ⟨w6.heap.size + 1, 0, none⟩, 1, none, 0, HY.out, by rw [← HK.out.2.1, ← HK1.out.2.1]; rfl, rd_row ((R6.out.alloc hz _).alloc hz _) (fun e => hpne e) (by omega) _, HM2.out, leaf_own (by have := HTG.out.2.2.2.2.2.2; unfold maxLen; omega) (by have := HT1.out.2.2.2.2.2.2; unfold maxLen; omega) (by decide) (ha.row (Nat.lt_succ_self _) _)⟩⟩
        · have HL := Lib.hid (show leafP (ts.map core) = _ from (congrArg leafP (congrArg (List.map core) HTS.out)).trans (leaf_in (t := core t) HK.out.1.symm hy))
          have HM1 := Lib.hid (show ∀ x ∈ r1, x ∈ ts from fun x hx => HRM.out x (by rw [hr1]; exact List.mem_cons_of_mem _ hx))
          have HL1 := Lib.hid (show r1.length ≤ 600 by have := HRL.out; rw [hr1] at this; simp at this; omega)
          have X4 := Lib.hid (X3.out.gr hg4 hpne)
          have T4 := Lib.hid (blk_gr T3.out hg4 hbp)
          have G4 := Lib.hid (G3.out.trans hg4)
          have CV := Lib.hid (values_any r1 (fun x hx => HG.out x (HM1.out x hx)) HL1.out p z hz w4 hrd4)
          have HP4 := Lib.hid (show p < w4.heap.size from hrd4.lt)
          clear hr1 hy hg4 hrd4
          go_wp2_with fail
          refine Calls.mono CV.out ?_
          rintro e w5 ⟨hg5, ⟨hv, a, n, c, rfl⟩ | ⟨vs, r2, a, c, hv, rfl, hr5, hm, hle, hown, hok, hlen⟩⟩
          · have HN := Lib.hid (show leafP (ts.map core) = none by rw [HL.out, hv])
            have X5 := Lib.hid (X4.out.gr hg5 hpne)
            have T5 := Lib.hid (blk_gr T4.out hg5 hbp)
            have G5 := Lib.hid (G4.out.trans hg5)
            clear hv hg5
            have HS : Hid (∀ W, Blk W w2.heap.size (.int .i64 1) (.int .i64 (ps : Nat)) (.int .i64 nm) (.string sn) → W.cell? ⟨w2.heap.size, 3, none⟩ = some (.string sn) ∧ Blk W w2.heap.size (.int .i64 1) (.int .i64 (ps : Nat)) (.int .i64 nm) (.string sn)) := Lib.hid (fun W h1 => ⟨h1.2.2.2.1, h1⟩)
            go_wp2_with fail
            refine wp_region_held_drew (S := (fun W => W.cell? ⟨w2.heap.size, 3, none⟩ = some (.string sn) ∧ Blk W w2.heap.size (.int .i64 1) (.int .i64 (ps : Nat)) (.int .i64 nm) (.string sn))) (by kernel_rfl) (HS.out _ (blk_same T5.out rfl (Nat.le_refl _))) (fun hHeld => ?_)
            refine wpAnyH_take (i := 0) (v := ?vif0) rfl (by kernel_rfl) (by kernel_rfl) (by kernel_rfl) (fun _ _ _ h => h) (Or.inl ⟨by rfl, ?yif0⟩) hHeld ?rif0
            case yif0 => (intro W hSw; simp only [List.getElem_toArray, List.getElem_cons_zero]; go_simp; try (with_reducible rfl))
            simp only [List.getElem_toArray, List.getElem_cons_zero, Act.put, List.setIfInBounds_toArray, List.set_cons_zero, List.set_cons_succ]
            refine wpAnyH_take (i := 1) (v := ?vif1) rfl (by kernel_rfl) (by kernel_rfl) (by kernel_rfl) (fun _ _ _ h => h) (Or.inl ⟨by rfl, ?yif1⟩) hHeld ?rif1
            case yif1 => (intro W hSw; simp only [List.getElem_toArray, List.getElem_cons_succ, List.getElem_cons_zero]; go_simp; try (with_reducible rfl))
            simp only [List.getElem_toArray, List.getElem_cons_succ, List.getElem_cons_zero, Act.put, List.setIfInBounds_toArray, List.set_cons_zero, List.set_cons_succ]
            refine wpAnyH_take (i := 2) (v := ?vif2) rfl (by kernel_rfl) (by kernel_rfl) (by kernel_rfl) (fun _ _ _ h => h) (Or.inl ⟨by rfl, ?yif2⟩) hHeld ?rif2
            case yif2 => (intro W hSw; simp only [List.getElem_toArray, List.getElem_cons_succ, List.getElem_cons_zero]; go_simp; try (with_reducible rfl))
            simp only [List.getElem_toArray, List.getElem_cons_succ, List.getElem_cons_zero, Act.put, List.setIfInBounds_toArray, List.set_cons_zero, List.set_cons_succ]
            refine wpAnyH_take (i := 3) (v := ?vif3) rfl (by kernel_rfl) (by kernel_rfl) (by kernel_rfl) (fun _ _ _ h => h) (Or.inl ⟨by rfl, ?yif3⟩) hHeld ?rif3
            case yif3 => (intro W hSw; simp only [List.getElem_toArray, List.getElem_cons_succ, List.getElem_cons_zero]; go_simp; try (with_reducible rfl))
            simp only [List.getElem_toArray, List.getElem_cons_succ, List.getElem_cons_zero, Act.put, List.setIfInBounds_toArray, List.set_cons_zero, List.set_cons_succ]
            refine wpAnyH_take (i := 4) (v := ?vif4) rfl (by kernel_rfl) (by kernel_rfl) (by kernel_rfl) (fun _ _ _ h => h) (Or.inl ⟨by rfl, ?yif4⟩) hHeld ?rif4
            case yif4 => (intro W hSw; simp only [List.getElem_toArray, List.getElem_cons_succ, List.getElem_cons_zero]; go_simp; try (with_reducible rfl))
            simp only [List.getElem_toArray, List.getElem_cons_succ, List.getElem_cons_zero, Act.put, List.setIfInBounds_toArray, List.set_cons_zero, List.set_cons_succ]
            refine wpAnyH_take (i := 5) (v := ?vif5) rfl (by kernel_rfl) (by kernel_rfl) (by kernel_rfl) (fun _ _ _ h => h) (Or.inl ⟨by rfl, ?yif5⟩) hHeld ?rif5
            case yif5 => (intro W hSw; simp only [List.getElem_toArray, List.getElem_cons_succ, List.getElem_cons_zero]; go_simp; try (with_reducible rfl))
            simp only [List.getElem_toArray, List.getElem_cons_succ, List.getElem_cons_zero, Act.put, List.setIfInBounds_toArray, List.set_cons_zero, List.set_cons_succ]
            refine wpAnyH_take (i := 6) (v := undef) rfl (by kernel_rfl) (by kernel_rfl) (by kernel_rfl) (fun _ _ _ h => h) (Or.inr ⟨by rfl, rfl⟩) hHeld ?_
            simp only [List.getElem_toArray, List.getElem_cons_succ, List.getElem_cons_zero, Act.put, List.setIfInBounds_toArray, List.set_cons_zero, List.set_cons_succ]
            refine wpAnyH_take (i := 7) (v := undef) rfl (by kernel_rfl) (by kernel_rfl) (by kernel_rfl) (fun _ _ _ h => h) (Or.inr ⟨by rfl, rfl⟩) hHeld ?_
            simp only [List.getElem_toArray, List.getElem_cons_succ, List.getElem_cons_zero, Act.put, List.setIfInBounds_toArray, List.set_cons_zero, List.set_cons_succ]
            refine wpAnyH_take (i := 8) (v := ?vif8) rfl (by kernel_rfl) (by kernel_rfl) (by kernel_rfl) (fun _ _ _ h => h) (Or.inl ⟨by rfl, ?yif8⟩) hHeld ?rif8
            case yif8 => (intro W hSw; simp only [List.getElem_toArray, List.getElem_cons_succ, List.getElem_cons_zero]; go_simp; try (with_reducible rfl))
            simp only [List.getElem_toArray, List.getElem_cons_succ, List.getElem_cons_zero, Act.put, List.setIfInBounds_toArray, List.set_cons_zero, List.set_cons_succ]
            refine wpAnyH_ready (rs := [9]) (by kernel_rfl) (by simp) (AllReadyH.cons rfl (fun K hK => ?_) AllReadyH.nil)
            simp only [List.getElem_toArray, List.getElem_cons_succ, List.getElem_cons_zero]
            refine wp_store_row _ _ _ rfl w.heap.size _ rfl rfl _ _ (X5.out.same rfl) (by kernel_rfl) rfl (by simp [Value.oneCell']) ?_
            refine hK.out _ _ (HS.out _ (blk_same hHeld.2 (setRow_other _ _ _ _ hbq) (by simp))) (fun hHeld1 => ?_)
            clear hK K hHeld
            have hHeld := hHeld1; clear hHeld1
            try simp only [List.getElem_toArray, List.getElem_cons_succ, List.getElem_cons_zero, Act.put, List.setIfInBounds_toArray, List.set_cons_zero, List.set_cons_succ]
            refine wpAnyH_take (i := 10) (v := ?vif10) rfl (by kernel_rfl) (by kernel_rfl) (by kernel_rfl) (fun _ _ _ h => h) (Or.inl ⟨by rfl, ?yif10⟩) hHeld ?rif10
            case yif10 => (intro W hSw; simp only [List.getElem_toArray, List.getElem_cons_succ, List.getElem_cons_zero]; go_simp; try (with_reducible rfl))
            simp only [List.getElem_toArray, List.getElem_cons_succ, List.getElem_cons_zero, Act.put, List.setIfInBounds_toArray, List.set_cons_zero, List.set_cons_succ]
            clear hHeld
            refine wpAnyH_done (by kernel_rfl) ?_ _
            go_wp2_with fail
            refine ret5 Tryz.results88 rfl rfl (Rw.set (X5.out.same rfl) _).box rfl ?_
            exact ⟨gr_row (gr_drew G5.out) (Nat.le_refl _) _, Or.inl ⟨HN.out, _, _, _, _, _, _, _, _, _, rfl⟩⟩
          · have X5 := Lib.hid (X4.out.gr hg5 hpne)
            have T5 := Lib.hid (blk_gr T4.out hg5 hbp)
            have G5 := Lib.hid (G4.out.trans hg5)
            have R5 := Lib.hid hr5
            have HA5 := own_atts hown hok (by unfold maxLen; omega)
            have HAO := Lib.hid (show AttsAt w5.drew (Old w5.drew.heap.size) a vs from HA5.far fun g h => ⟨h.2, rfl⟩)
            have HAR := Lib.hid (show AttsAt w5.drew (fun g => w.heap.size + 1 ≤ g ∧ g < w5.drew.heap.size) a vs from HA5.far fun g h => ⟨⟨by have := X4.out.lt; omega, h.2⟩, rfl⟩)
            have FIN : Hid (∀ (V : World), w.grownBy V (some p) → RdAt V p z r2 → AttsAt V (fun g => w.heap.size ≤ g ∧ g < V.heap.size) a vs → RdEnd (leafP (ts.map core)) ts p z w V (.returned (.tuple #[.agg #[.int .i64 6, .string sn, .string ⟨#[]⟩, .slice a vs.length c, .slice none 0 0], .bool (sortB vs)]))) := Lib.hid (fun V hgv hrv hav => by
              have hL : leafP (ts.map core) = if sortB vs = true then some (.mk 6 t.str [] vs [], r2.map core) else none := by rw [HL.out, hv]; rfl
              by_cases hs : sortB vs = true
              · rw [hs]
                rw [if_pos hs] at hL
                exact ⟨hgv, Or.inr ⟨_, r2, a, c, none, 0, hL, by rw [← HK.out.2.1]; rfl, hrv, fun x hx => HM1.out x (hm x hx), leaf_own (by have := HTG.out.2.2.2.2.2.2; unfold maxLen; omega) (by simp) (by decide) hav⟩⟩
              · rw [if_neg hs] at hL
                rw [Bool.not_eq_true] at hs
                rw [hs]
                exact ⟨hgv, Or.inl ⟨hL, _, _, _, _, _, _, _, _, _, rfl⟩⟩)
            obtain ⟨sb, hsb⟩ : ∃ x, x = sortB vs := ⟨_, rfl⟩
            clear hv hg5 hr5 hm hle hown hok hlen HA5 hsb sb
            have HS : Hid (∀ W, Blk W w2.heap.size (.int .i64 1) (.int .i64 (ps : Nat)) (.int .i64 nm) (.string sn) → W.cell? ⟨w2.heap.size, 3, none⟩ = some (.string sn) ∧ Blk W w2.heap.size (.int .i64 1) (.int .i64 (ps : Nat)) (.int .i64 nm) (.string sn)) := Lib.hid (fun W h1 => ⟨h1.2.2.2.1, h1⟩)
            go_wp2_with fail
            refine wp_region_held_drew (S := (fun W => W.cell? ⟨w2.heap.size, 3, none⟩ = some (.string sn) ∧ Blk W w2.heap.size (.int .i64 1) (.int .i64 (ps : Nat)) (.int .i64 nm) (.string sn))) (by kernel_rfl) (HS.out _ (blk_same T5.out rfl (Nat.le_refl _))) (fun hHeld => ?_)
            refine wpAnyH_take (i := 0) (v := ?vit0) rfl (by kernel_rfl) (by kernel_rfl) (by kernel_rfl) (fun _ _ _ h => h) (Or.inl ⟨by rfl, ?yit0⟩) hHeld ?rit0
            case yit0 => (intro W hSw; simp only [List.getElem_toArray, List.getElem_cons_zero]; go_simp; try (with_reducible rfl))
            simp only [List.getElem_toArray, List.getElem_cons_zero, Act.put, List.setIfInBounds_toArray, List.set_cons_zero, List.set_cons_succ]
            refine wpAnyH_take (i := 1) (v := ?vit1) rfl (by kernel_rfl) (by kernel_rfl) (by kernel_rfl) (fun _ _ _ h => h) (Or.inl ⟨by rfl, ?yit1⟩) hHeld ?rit1
            case yit1 => (intro W hSw; simp only [List.getElem_toArray, List.getElem_cons_succ, List.getElem_cons_zero]; go_simp; try (with_reducible rfl))
            simp only [List.getElem_toArray, List.getElem_cons_succ, List.getElem_cons_zero, Act.put, List.setIfInBounds_toArray, List.set_cons_zero, List.set_cons_succ]
            refine wpAnyH_take (i := 2) (v := ?vit2) rfl (by kernel_rfl) (by kernel_rfl) (by kernel_rfl) (fun _ _ _ h => h) (Or.inl ⟨by rfl, ?yit2⟩) hHeld ?rit2
            case yit2 => (intro W hSw; simp only [List.getElem_toArray, List.getElem_cons_succ, List.getElem_cons_zero]; go_simp; try (with_reducible rfl))
            simp only [List.getElem_toArray, List.getElem_cons_succ, List.getElem_cons_zero, Act.put, List.setIfInBounds_toArray, List.set_cons_zero, List.set_cons_succ]
            refine wpAnyH_take (i := 3) (v := ?vit3) rfl (by kernel_rfl) (by kernel_rfl) (by kernel_rfl) (fun _ _ _ h => h) (Or.inl ⟨by rfl, ?yit3⟩) hHeld ?rit3
            case yit3 => (intro W hSw; simp only [List.getElem_toArray, List.getElem_cons_succ, List.getElem_cons_zero]; go_simp; try (with_reducible rfl))
            simp only [List.getElem_toArray, List.getElem_cons_succ, List.getElem_cons_zero, Act.put, List.setIfInBounds_toArray, List.set_cons_zero, List.set_cons_succ]
            refine wpAnyH_take (i := 4) (v := ?vit4) rfl (by kernel_rfl) (by kernel_rfl) (by kernel_rfl) (fun _ _ _ h => h) (Or.inl ⟨by rfl, ?yit4⟩) hHeld ?rit4
            case yit4 => (intro W hSw; simp only [List.getElem_toArray, List.getElem_cons_succ, List.getElem_cons_zero]; go_simp; try (with_reducible rfl))
            simp only [List.getElem_toArray, List.getElem_cons_succ, List.getElem_cons_zero, Act.put, List.setIfInBounds_toArray, List.set_cons_zero, List.set_cons_succ]
            refine wpAnyH_take (i := 5) (v := ?vit5) rfl (by kernel_rfl) (by kernel_rfl) (by kernel_rfl) (fun _ _ _ h => h) (Or.inl ⟨by rfl, ?yit5⟩) hHeld ?rit5
            case yit5 => (intro W hSw; simp only [List.getElem_toArray, List.getElem_cons_succ, List.getElem_cons_zero]; go_simp; try (with_reducible rfl))
            simp only [List.getElem_toArray, List.getElem_cons_succ, List.getElem_cons_zero, Act.put, List.setIfInBounds_toArray, List.set_cons_zero, List.set_cons_succ]
            refine wpAnyH_take (i := 6) (v := ?vit6) rfl (by kernel_rfl) (by kernel_rfl) (by kernel_rfl) (fun _ _ _ h => h) (Or.inl ⟨by rfl, ?yit6⟩) hHeld ?rit6
            case yit6 => (intro W hSw; simp only [List.getElem_toArray, List.getElem_cons_succ, List.getElem_cons_zero]; go_simp; try (with_reducible rfl))
            simp only [List.getElem_toArray, List.getElem_cons_succ, List.getElem_cons_zero, Act.put, List.setIfInBounds_toArray, List.set_cons_zero, List.set_cons_succ]
            refine wpAnyH_ready (rs := [7]) (by kernel_rfl) (by simp) (AllReadyH.cons rfl (fun K hK => ?_) AllReadyH.nil)
            simp only [List.getElem_toArray, List.getElem_cons_succ, List.getElem_cons_zero]
            go_simp
            go_at_call 52
            refine Calls.mono (oneSort_any vs a c _ HAO.out) ?_
            rintro e w7 ⟨rfl, hb7⟩
            try go_wp2_with fail
            refine hK.out _ _ (HS.out _ (hHeld.2.later hb7)) (fun hHeld1 => ?_)
            clear hK K hHeld
            have hHeld := hHeld1; clear hHeld1
            try simp only [List.getElem_toArray, List.getElem_cons_succ, List.getElem_cons_zero, Act.put, List.setIfInBounds_toArray, List.set_cons_zero, List.set_cons_succ]
            refine wpAnyH_take (i := 8) (v := ?vita8) rfl (by kernel_rfl) (by kernel_rfl) (by kernel_rfl) (fun _ _ _ h => h) (Or.inl ⟨by rfl, ?yita8⟩) hHeld ?rita8
            case yita8 => (intro W hSw; simp only [List.getElem_toArray, List.getElem_cons_succ, List.getElem_cons_zero]; go_simp; try (with_reducible rfl))
            simp only [List.getElem_toArray, List.getElem_cons_succ, List.getElem_cons_zero, Act.put, List.setIfInBounds_toArray, List.set_cons_zero, List.set_cons_succ]
            refine wpAnyH_ready (rs := [9]) (by kernel_rfl) (by simp) (AllReadyH.cons rfl (fun K hK => ?_) AllReadyH.nil)
            simp only [List.getElem_toArray, List.getElem_cons_succ, List.getElem_cons_zero]
            refine wp_store_row _ _ _ rfl w.heap.size _ rfl rfl _ _ (Rw.later (W := w5.drew) (X5.out.same rfl) hb7) (by kernel_rfl) rfl (by simp [Value.oneCell']) ?_
            refine hK.out _ _ (HS.out _ (blk_same hHeld.2 (setRow_other _ _ _ _ hbq) (by simp))) (fun hHeld1 => ?_)
            clear hK K hHeld
            have hHeld := hHeld1; clear hHeld1
            try simp only [List.getElem_toArray, List.getElem_cons_succ, List.getElem_cons_zero, Act.put, List.setIfInBounds_toArray, List.set_cons_zero, List.set_cons_succ]
            refine wpAnyH_take (i := 10) (v := ?vita10) rfl (by kernel_rfl) (by kernel_rfl) (by kernel_rfl) (fun _ _ _ h => h) (Or.inl ⟨by rfl, ?yita10⟩) hHeld ?rita10
            case yita10 => (intro W hSw; simp only [List.getElem_toArray, List.getElem_cons_succ, List.getElem_cons_zero]; go_simp; try (with_reducible rfl))
            simp only [List.getElem_toArray, List.getElem_cons_succ, List.getElem_cons_zero, Act.put, List.setIfInBounds_toArray, List.set_cons_zero, List.set_cons_succ]
            clear hHeld
            refine wpAnyH_done (by kernel_rfl) ?_ _
            go_wp2_with fail
            refine ret5 Tryz.results88 rfl rfl (Rw.set (Rw.later (W := w5.drew) (X5.out.same rfl) hb7) _).box rfl ?_
            exact FIN.out _ (gr_row (gr_trans (gr_drew G5.out) (gr_of_below hb7)) (Nat.le_refl _) _) (rd_row ((R5.out.keep rfl fun _ _ => rfl : RdAt w5.drew p z r2).later hz hb7) (fun e => hpne e) (by omega) _) (((HAR.out.far fun g h => ⟨⟨h.1, Nat.lt_of_lt_of_le h.2 hb7.size⟩, hb7.block g h.2⟩ : AttsAt w7 (fun g => w.heap.size + 1 ≤ g ∧ g < w7.heap.size) a vs)).row (Nat.lt_succ_self _) _)
      · have HL := Lib.hid (show leafP (ts.map core) = _ from (congrArg leafP (congrArg (List.map core) HTS.out)).trans (leaf_pre (t := core t) HK.out.1.symm hy))
        have HM1 := Lib.hid (show ∀ x ∈ r1, x ∈ ts from fun x hx => HRM.out x (by rw [hr1]; exact List.mem_cons_of_mem _ hx))
        have HL1 := Lib.hid (show r1.length ≤ 600 by have := HRL.out; rw [hr1] at this; simp at this; omega)
        have X4 := Lib.hid (X3.out.gr hg4 hpne)
        have T4 := Lib.hid (blk_gr T3.out hg4 hbp)
        have G4 := Lib.hid (G3.out.trans hg4)
        have CV := Lib.hid (value_any r1 HL1.out p z hz w4 hrd4)
        clear hr1 hy hg4 hrd4
        go_wp2_with fail
        refine Calls.mono CV.out ?_
        rintro e w5 ⟨hg5, ⟨hv, rfl, _⟩ | ⟨t2, r2, v, hts2, hv, rfl, hr5⟩⟩
        · have HN := Lib.hid (show leafP (ts.map core) = none by rw [HL.out, hv])
          have X5 := Lib.hid (X4.out.gr hg5 hpne)
          have T5 := Lib.hid (blk_gr T4.out hg5 hbp)
          have G5 := Lib.hid (G4.out.trans hg5)
          clear hv hg5
          rw [show bs [] = .string ⟨#[]⟩ from rfl]
          obtain ⟨w6, hw6⟩ : ∃ v, v = w5.alloc (.cells #[.string ⟨#[]⟩, .bool false, .int .i64 0, .string ⟨#[]⟩] 47) := ⟨_, rfl⟩
          have HW6 := Lib.hid hw6
          have X6 := Lib.hid (show Rw w6 w.heap.size #[.int .i64 0, .string ⟨#[]⟩, .string ⟨#[]⟩, .slice none 0 0, .slice none 0 0] by rw [hw6]; exact X5.out.alloc _)
          have T6 := Lib.hid (show Blk w6 w2.heap.size (.int .i64 1) (.int .i64 (ps : Nat)) (.int .i64 nm) (.string sn) by rw [hw6]; exact T5.out.later ((Below.refl _ _).alloc (Nat.le_refl _) _))
          have A6 := Lib.hid (show Blk w6 w5.heap.size (.string ⟨#[]⟩) (.bool false) (.int .i64 0) (.string ⟨#[]⟩) by rw [hw6]; exact Blk.new ..)
          have G6 := Lib.hid (show w.grownBy w6 (some p) by rw [hw6]; exact gr_alloc G5.out _)
          clear hw6
          have hb5 : ¬ w5.heap.size = w.heap.size := by have := X5.out.lt; omega
          have HS : Hid (∀ W, Blk W w2.heap.size (.int .i64 1) (.int .i64 (ps : Nat)) (.int .i64 nm) (.string sn) → Blk W w5.heap.size (.string ⟨#[]⟩) (.bool false) (.int .i64 0) (.string ⟨#[]⟩) → W.cell? ⟨w2.heap.size, 3, none⟩ = some (.string sn) ∧ W.cell? ⟨w5.heap.size, 0, none⟩ = some (.string ⟨#[]⟩) ∧ W.cell? ⟨w5.heap.size, 1, none⟩ = some (.bool false) ∧ W.cell? ⟨w5.heap.size, 2, none⟩ = some (.int .i64 0) ∧ W.cell? ⟨w5.heap.size, 3, none⟩ = some (.string ⟨#[]⟩) ∧ Blk W w2.heap.size (.int .i64 1) (.int .i64 (ps : Nat)) (.int .i64 nm) (.string sn) ∧ Blk W w5.heap.size (.string ⟨#[]⟩) (.bool false) (.int .i64 0) (.string ⟨#[]⟩)) := Lib.hid (fun W h1 h2 => ⟨h1.2.2.2.1, h2.1, h2.2.1, h2.2.2.1, h2.2.2.2.1, h1, h2⟩)
          go_wp2_with fail
          rw [← HW6.out]
          refine wp_region_held_drew (S := (fun W => W.cell? ⟨w2.heap.size, 3, none⟩ = some (.string sn) ∧ W.cell? ⟨w5.heap.size, 0, none⟩ = some (.string ⟨#[]⟩) ∧ W.cell? ⟨w5.heap.size, 1, none⟩ = some (.bool false) ∧ W.cell? ⟨w5.heap.size, 2, none⟩ = some (.int .i64 0) ∧ W.cell? ⟨w5.heap.size, 3, none⟩ = some (.string ⟨#[]⟩) ∧ Blk W w2.heap.size (.int .i64 1) (.int .i64 (ps : Nat)) (.int .i64 nm) (.string sn) ∧ Blk W w5.heap.size (.string ⟨#[]⟩) (.bool false) (.int .i64 0) (.string ⟨#[]⟩))) (by kernel_rfl) (HS.out _ (blk_same T6.out rfl (Nat.le_refl _)) (blk_same A6.out rfl (Nat.le_refl _))) (fun hHeld => ?_)
          refine wpAnyH_take (i := 0) (v := ?vf0) rfl (by kernel_rfl) (by kernel_rfl) (by kernel_rfl) (fun _ _ _ h => h) (Or.inl ⟨by rfl, ?yf0⟩) hHeld ?rf0
          case yf0 => (intro W hSw; simp only [List.getElem_toArray, List.getElem_cons_zero]; go_simp; try (with_reducible rfl))
          simp only [List.getElem_toArray, List.getElem_cons_zero, Act.put, List.setIfInBounds_toArray, List.set_cons_zero, List.set_cons_succ]
          refine wpAnyH_take (i := 1) (v := ?vf1) rfl (by kernel_rfl) (by kernel_rfl) (by kernel_rfl) (fun _ _ _ h => h) (Or.inl ⟨by rfl, ?yf1⟩) hHeld ?rf1
          case yf1 => (intro W hSw; simp only [List.getElem_toArray, List.getElem_cons_succ, List.getElem_cons_zero]; go_simp; try (with_reducible rfl))
          simp only [List.getElem_toArray, List.getElem_cons_succ, List.getElem_cons_zero, Act.put, List.setIfInBounds_toArray, List.set_cons_zero, List.set_cons_succ]
          refine wpAnyH_take (i := 2) (v := ?vf2) rfl (by kernel_rfl) (by kernel_rfl) (by kernel_rfl) (fun _ _ _ h => h) (Or.inl ⟨by rfl, ?yf2⟩) hHeld ?rf2
          case yf2 => (intro W hSw; simp only [List.getElem_toArray, List.getElem_cons_succ, List.getElem_cons_zero]; go_simp; try (with_reducible rfl))
          simp only [List.getElem_toArray, List.getElem_cons_succ, List.getElem_cons_zero, Act.put, List.setIfInBounds_toArray, List.set_cons_zero, List.set_cons_succ]
          refine wpAnyH_take (i := 5) (v := ?vf5) rfl (by kernel_rfl) (by kernel_rfl) (by kernel_rfl) (fun _ _ _ h => h) (Or.inl ⟨by rfl, ?yf5⟩) hHeld ?rf5
          case yf5 => (intro W hSw; simp only [List.getElem_toArray, List.getElem_cons_succ, List.getElem_cons_zero]; go_simp; try (with_reducible rfl))
          simp only [List.getElem_toArray, List.getElem_cons_succ, List.getElem_cons_zero, Act.put, List.setIfInBounds_toArray, List.set_cons_zero, List.set_cons_succ]
          refine wpAnyH_take (i := 6) (v := ?vf6) rfl (by kernel_rfl) (by kernel_rfl) (by kernel_rfl) (fun _ _ _ h => h) (Or.inl ⟨by rfl, ?yf6⟩) hHeld ?rf6
          case yf6 => (intro W hSw; simp only [List.getElem_toArray, List.getElem_cons_succ, List.getElem_cons_zero]; go_simp; try (with_reducible rfl))
          simp only [List.getElem_toArray, List.getElem_cons_succ, List.getElem_cons_zero, Act.put, List.setIfInBounds_toArray, List.set_cons_zero, List.set_cons_succ]
          refine wpAnyH_take (i := 7) (v := undef) rfl (by kernel_rfl) (by kernel_rfl) (by kernel_rfl) (fun _ _ _ h => h) (Or.inr ⟨by rfl, rfl⟩) hHeld ?_
          simp only [List.getElem_toArray, List.getElem_cons_succ, List.getElem_cons_zero, Act.put, List.setIfInBounds_toArray, List.set_cons_zero, List.set_cons_succ]
          refine wpAnyH_take (i := 8) (v := undef) rfl (by kernel_rfl) (by kernel_rfl) (by kernel_rfl) (fun _ _ _ h => h) (Or.inr ⟨by rfl, rfl⟩) hHeld ?_
          simp only [List.getElem_toArray, List.getElem_cons_succ, List.getElem_cons_zero, Act.put, List.setIfInBounds_toArray, List.set_cons_zero, List.set_cons_succ]
          refine wpAnyH_take (i := 9) (v := ?vf9) rfl (by kernel_rfl) (by kernel_rfl) (by kernel_rfl) (fun _ _ _ h => h) (Or.inl ⟨by rfl, ?yf9⟩) hHeld ?rf9
          case yf9 => (intro W hSw; simp only [List.getElem_toArray, List.getElem_cons_succ, List.getElem_cons_zero]; go_simp; try (with_reducible rfl))
          simp only [List.getElem_toArray, List.getElem_cons_succ, List.getElem_cons_zero, Act.put, List.setIfInBounds_toArray, List.set_cons_zero, List.set_cons_succ]
          refine wpAnyH_ready (rs := [3]) (by kernel_rfl) (by simp) (AllReadyH.cons rfl (fun K hK => ?_) AllReadyH.nil)
          simp only [List.getElem_toArray, List.getElem_cons_succ, List.getElem_cons_zero]
          go_simp
          skip
          try go_wp2_with fail
          refine hK.out _ _ (HS.out _ (blk_same hHeld.2.2.2.2.2.1 (Below.heap_alloc _ _ _ hHeld.2.2.2.2.2.1.2.2.2.2.2) (by simp)) (blk_same hHeld.2.2.2.2.2.2 (Below.heap_alloc _ _ _ hHeld.2.2.2.2.2.2.2.2.2.2.2) (by simp))) (fun hHeld1 => ?_)
          clear hK K hHeld
          have hHeld := hHeld1; clear hHeld1
          try simp only [List.getElem_toArray, List.getElem_cons_succ, List.getElem_cons_zero, Act.put, List.setIfInBounds_toArray, List.set_cons_zero, List.set_cons_succ]
          refine wpAnyH_take (i := 4) (v := ?vf4) rfl (by kernel_rfl) (by kernel_rfl) (by kernel_rfl) (fun _ _ _ h => h) (Or.inl ⟨by rfl, ?yf4⟩) hHeld ?rf4
          case yf4 => (intro W hSw; simp only [List.getElem_toArray, List.getElem_cons_succ, List.getElem_cons_zero]; go_simp; try (with_reducible rfl))
          simp only [List.getElem_toArray, List.getElem_cons_succ, List.getElem_cons_zero, Act.put, List.setIfInBounds_toArray, List.set_cons_zero, List.set_cons_succ]
          refine wpAnyH_ready (rs := [10]) (by kernel_rfl) (by simp) (AllReadyH.cons rfl (fun K hK => ?_) AllReadyH.nil)
          simp only [List.getElem_toArray, List.getElem_cons_succ, List.getElem_cons_zero]
          refine wp_store_row _ _ _ rfl w.heap.size _ rfl rfl _ _ (Rw.alloc (X6.out.same rfl) _) (by kernel_rfl) rfl (by simp [Value.oneCell']) ?_
          refine hK.out _ _ (HS.out _ (blk_same hHeld.2.2.2.2.2.1 (setRow_other _ _ _ _ hbq) (by simp)) (blk_same hHeld.2.2.2.2.2.2 (setRow_other _ _ _ _ hb5) (by simp))) (fun hHeld1 => ?_)
          clear hK K hHeld
          have hHeld := hHeld1; clear hHeld1
          try simp only [List.getElem_toArray, List.getElem_cons_succ, List.getElem_cons_zero, Act.put, List.setIfInBounds_toArray, List.set_cons_zero, List.set_cons_succ]
          refine wpAnyH_take (i := 11) (v := ?vf11) rfl (by kernel_rfl) (by kernel_rfl) (by kernel_rfl) (fun _ _ _ h => h) (Or.inl ⟨by rfl, ?yf11⟩) hHeld ?rf11
          case yf11 => (intro W hSw; simp only [List.getElem_toArray, List.getElem_cons_succ, List.getElem_cons_zero]; go_simp; try (with_reducible rfl))
          simp only [List.getElem_toArray, List.getElem_cons_succ, List.getElem_cons_zero, Act.put, List.setIfInBounds_toArray, List.set_cons_zero, List.set_cons_succ]
          clear hHeld
          refine wpAnyH_done (by kernel_rfl) ?_ _
          go_wp2_with fail
          refine ret5 Tryz.results88 rfl rfl (Rw.set (Rw.alloc (X6.out.same rfl) _) _).box rfl ?_
          exact ⟨gr_row (gr_alloc (gr_drew G6.out) _) (Nat.le_refl _) _, Or.inl ⟨HN.out, _, _, _, _, _, _, _, _, _, rfl⟩⟩
        · have X5 := Lib.hid (X4.out.gr hg5 hpne)
          have T5 := Lib.hid (blk_gr T4.out hg5 hbp)
          have G5 := Lib.hid (G4.out.trans hg5)
          have R5 := Lib.hid hr5
          have HM2 := Lib.hid (show ∀ x ∈ r2, x ∈ ts from fun x hx => HM1.out x (by rw [hts2]; exact List.mem_cons_of_mem _ hx))
          have HVO := Lib.hid (val_ok (fun x hx => HG.out x (HM1.out x hx)) hv)
          have HLV := Lib.hid (show leafP (ts.map core) = if v.text then some (.mk 5 t.str [] [v] [], r2.map core) else none by rw [HL.out, hv]; rfl)
          obtain ⟨vn, evn, _⟩ := bs_bytes v.name
          obtain ⟨vt, evt, _⟩ := bs_bytes v.str
          obtain ⟨tx, htx⟩ : ∃ x, x = v.text := ⟨_, rfl⟩
          obtain ⟨nv, hnv⟩ : ∃ x, x = v.num := ⟨_, rfl⟩
          have HAC := Lib.hid (show attC v = [.string vn, .bool tx, .int .i64 nv, .string vt] by rw [attC, evn, evt, htx, hnv])
          have HTX := Lib.hid htx
          rw [evn, evt, ← htx, ← hnv]
          clear hv hg5 hr5 hts2 evn evt htx hnv
          obtain ⟨w6, hw6⟩ : ∃ v, v = w5.alloc (.cells #[.string vn, .bool tx, .int .i64 nv, .string vt] 47) := ⟨_, rfl⟩
          have HW6 := Lib.hid hw6
          have X6 := Lib.hid (show Rw w6 w.heap.size #[.int .i64 0, .string ⟨#[]⟩, .string ⟨#[]⟩, .slice none 0 0, .slice none 0 0] by rw [hw6]; exact X5.out.alloc _)
          have T6 := Lib.hid (show Blk w6 w2.heap.size (.int .i64 1) (.int .i64 (ps : Nat)) (.int .i64 nm) (.string sn) by rw [hw6]; exact T5.out.later ((Below.refl _ _).alloc (Nat.le_refl _) _))
          have A6 := Lib.hid (show Blk w6 w5.heap.size (.string vn) (.bool tx) (.int .i64 nv) (.string vt) by rw [hw6]; exact Blk.new ..)
          have G6 := Lib.hid (show w.grownBy w6 (some p) by rw [hw6]; exact gr_alloc G5.out _)
          clear hw6
          have hb5 : ¬ w5.heap.size = w.heap.size := by have := X5.out.lt; omega
          have HS : Hid (∀ W, Blk W w2.heap.size (.int .i64 1) (.int .i64 (ps : Nat)) (.int .i64 nm) (.string sn) → Blk W w5.heap.size (.string vn) (.bool tx) (.int .i64 nv) (.string vt) → W.cell? ⟨w2.heap.size, 3, none⟩ = some (.string sn) ∧ W.cell? ⟨w5.heap.size, 0, none⟩ = some (.string vn) ∧ W.cell? ⟨w5.heap.size, 1, none⟩ = some (.bool tx) ∧ W.cell? ⟨w5.heap.size, 2, none⟩ = some (.int .i64 nv) ∧ W.cell? ⟨w5.heap.size, 3, none⟩ = some (.string vt) ∧ Blk W w2.heap.size (.int .i64 1) (.int .i64 (ps : Nat)) (.int .i64 nm) (.string sn) ∧ Blk W w5.heap.size (.string vn) (.bool tx) (.int .i64 nv) (.string vt)) := Lib.hid (fun W h1 h2 => ⟨h1.2.2.2.1, h2.1, h2.2.1, h2.2.2.1, h2.2.2.2.1, h1, h2⟩)
          go_wp2_with fail
          rw [← HW6.out]
          refine wp_region_held_drew (S := (fun W => W.cell? ⟨w2.heap.size, 3, none⟩ = some (.string sn) ∧ W.cell? ⟨w5.heap.size, 0, none⟩ = some (.string vn) ∧ W.cell? ⟨w5.heap.size, 1, none⟩ = some (.bool tx) ∧ W.cell? ⟨w5.heap.size, 2, none⟩ = some (.int .i64 nv) ∧ W.cell? ⟨w5.heap.size, 3, none⟩ = some (.string vt) ∧ Blk W w2.heap.size (.int .i64 1) (.int .i64 (ps : Nat)) (.int .i64 nm) (.string sn) ∧ Blk W w5.heap.size (.string vn) (.bool tx) (.int .i64 nv) (.string vt))) (by kernel_rfl) (HS.out _ (blk_same T6.out rfl (Nat.le_refl _)) (blk_same A6.out rfl (Nat.le_refl _))) (fun hHeld => ?_)
          refine wpAnyH_take (i := 0) (v := ?vt0) rfl (by kernel_rfl) (by kernel_rfl) (by kernel_rfl) (fun _ _ _ h => h) (Or.inl ⟨by rfl, ?yt0⟩) hHeld ?rt0
          case yt0 => (intro W hSw; simp only [List.getElem_toArray, List.getElem_cons_zero]; go_simp; try (with_reducible rfl))
          simp only [List.getElem_toArray, List.getElem_cons_zero, Act.put, List.setIfInBounds_toArray, List.set_cons_zero, List.set_cons_succ]
          refine wpAnyH_take (i := 1) (v := ?vt1) rfl (by kernel_rfl) (by kernel_rfl) (by kernel_rfl) (fun _ _ _ h => h) (Or.inl ⟨by rfl, ?yt1⟩) hHeld ?rt1
          case yt1 => (intro W hSw; simp only [List.getElem_toArray, List.getElem_cons_succ, List.getElem_cons_zero]; go_simp; try (with_reducible rfl))
          simp only [List.getElem_toArray, List.getElem_cons_succ, List.getElem_cons_zero, Act.put, List.setIfInBounds_toArray, List.set_cons_zero, List.set_cons_succ]
          refine wpAnyH_take (i := 2) (v := ?vt2) rfl (by kernel_rfl) (by kernel_rfl) (by kernel_rfl) (fun _ _ _ h => h) (Or.inl ⟨by rfl, ?yt2⟩) hHeld ?rt2
          case yt2 => (intro W hSw; simp only [List.getElem_toArray, List.getElem_cons_succ, List.getElem_cons_zero]; go_simp; try (with_reducible rfl))
          simp only [List.getElem_toArray, List.getElem_cons_succ, List.getElem_cons_zero, Act.put, List.setIfInBounds_toArray, List.set_cons_zero, List.set_cons_succ]
          refine wpAnyH_take (i := 5) (v := ?vt5) rfl (by kernel_rfl) (by kernel_rfl) (by kernel_rfl) (fun _ _ _ h => h) (Or.inl ⟨by rfl, ?yt5⟩) hHeld ?rt5
          case yt5 => (intro W hSw; simp only [List.getElem_toArray, List.getElem_cons_succ, List.getElem_cons_zero]; go_simp; try (with_reducible rfl))
          simp only [List.getElem_toArray, List.getElem_cons_succ, List.getElem_cons_zero, Act.put, List.setIfInBounds_toArray, List.set_cons_zero, List.set_cons_succ]
          refine wpAnyH_take (i := 6) (v := ?vt6) rfl (by kernel_rfl) (by kernel_rfl) (by kernel_rfl) (fun _ _ _ h => h) (Or.inl ⟨by rfl, ?yt6⟩) hHeld ?rt6
          case yt6 => (intro W hSw; simp only [List.getElem_toArray, List.getElem_cons_succ, List.getElem_cons_zero]; go_simp; try (with_reducible rfl))
          simp only [List.getElem_toArray, List.getElem_cons_succ, List.getElem_cons_zero, Act.put, List.setIfInBounds_toArray, List.set_cons_zero, List.set_cons_succ]
          refine wpAnyH_take (i := 7) (v := ?vt7) rfl (by kernel_rfl) (by kernel_rfl) (by kernel_rfl) (fun _ _ _ h => h) (Or.inl ⟨by rfl, ?yt7⟩) hHeld ?rt7
          case yt7 => (intro W hSw; simp only [List.getElem_toArray, List.getElem_cons_succ, List.getElem_cons_zero]; go_simp; try (with_reducible rfl))
          simp only [List.getElem_toArray, List.getElem_cons_succ, List.getElem_cons_zero, Act.put, List.setIfInBounds_toArray, List.set_cons_zero, List.set_cons_succ]
          refine wpAnyH_take (i := 8) (v := ?vt8) rfl (by kernel_rfl) (by kernel_rfl) (by kernel_rfl) (fun _ _ _ h => h) (Or.inl ⟨by rfl, ?yt8⟩) hHeld ?rt8
          case yt8 => (intro W hSw; simp only [List.getElem_toArray, List.getElem_cons_succ, List.getElem_cons_zero]; go_simp; try (with_reducible rfl))
          simp only [List.getElem_toArray, List.getElem_cons_succ, List.getElem_cons_zero, Act.put, List.setIfInBounds_toArray, List.set_cons_zero, List.set_cons_succ]
          refine wpAnyH_take (i := 9) (v := ?vt9) rfl (by kernel_rfl) (by kernel_rfl) (by kernel_rfl) (fun _ _ _ h => h) (Or.inl ⟨by rfl, ?yt9⟩) hHeld ?rt9
          case yt9 => (intro W hSw; simp only [List.getElem_toArray, List.getElem_cons_succ, List.getElem_cons_zero]; go_simp; try (with_reducible rfl))
          simp only [List.getElem_toArray, List.getElem_cons_succ, List.getElem_cons_zero, Act.put, List.setIfInBounds_toArray, List.set_cons_zero, List.set_cons_succ]
          refine wpAnyH_ready (rs := [3]) (by kernel_rfl) (by simp) (AllReadyH.cons rfl (fun K hK => ?_) AllReadyH.nil)
          simp only [List.getElem_toArray, List.getElem_cons_succ, List.getElem_cons_zero]
          go_simp
          skip
          try go_wp2_with fail
          refine hK.out _ _ (HS.out _ (blk_same hHeld.2.2.2.2.2.1 (Below.heap_alloc _ _ _ hHeld.2.2.2.2.2.1.2.2.2.2.2) (by simp)) (blk_same hHeld.2.2.2.2.2.2 (Below.heap_alloc _ _ _ hHeld.2.2.2.2.2.2.2.2.2.2.2) (by simp))) (fun hHeld1 => ?_)
          clear hK K hHeld
          have hHeld := hHeld1; clear hHeld1
          try simp only [List.getElem_toArray, List.getElem_cons_succ, List.getElem_cons_zero, Act.put, List.setIfInBounds_toArray, List.set_cons_zero, List.set_cons_succ]
          refine wpAnyH_take (i := 4) (v := ?vt4) rfl (by kernel_rfl) (by kernel_rfl) (by kernel_rfl) (fun _ _ _ h => h) (Or.inl ⟨by rfl, ?yt4⟩) hHeld ?rt4
          case yt4 => (intro W hSw; simp only [List.getElem_toArray, List.getElem_cons_succ, List.getElem_cons_zero]; go_simp; try (with_reducible rfl))
          simp only [List.getElem_toArray, List.getElem_cons_succ, List.getElem_cons_zero, Act.put, List.setIfInBounds_toArray, List.set_cons_zero, List.set_cons_succ]
          refine wpAnyH_ready (rs := [10]) (by kernel_rfl) (by simp) (AllReadyH.cons rfl (fun K hK => ?_) AllReadyH.nil)
          simp only [List.getElem_toArray, List.getElem_cons_succ, List.getElem_cons_zero]
          refine wp_store_row _ _ _ rfl w.heap.size _ rfl rfl _ _ (Rw.alloc (X6.out.same rfl) _) (by kernel_rfl) rfl (by simp [Value.oneCell']) ?_
          refine hK.out _ _ (HS.out _ (blk_same hHeld.2.2.2.2.2.1 (setRow_other _ _ _ _ hbq) (by simp)) (blk_same hHeld.2.2.2.2.2.2 (setRow_other _ _ _ _ hb5) (by simp))) (fun hHeld1 => ?_)
          clear hK K hHeld
          have hHeld := hHeld1; clear hHeld1
          try simp only [List.getElem_toArray, List.getElem_cons_succ, List.getElem_cons_zero, Act.put, List.setIfInBounds_toArray, List.set_cons_zero, List.set_cons_succ]
          refine wpAnyH_take (i := 11) (v := ?vt11) rfl (by kernel_rfl) (by kernel_rfl) (by kernel_rfl) (fun _ _ _ h => h) (Or.inl ⟨by rfl, ?yt11⟩) hHeld ?rt11
          case yt11 => (intro W hSw; simp only [List.getElem_toArray, List.getElem_cons_succ, List.getElem_cons_zero]; go_simp; try (with_reducible rfl))
          simp only [List.getElem_toArray, List.getElem_cons_succ, List.getElem_cons_zero, Act.put, List.setIfInBounds_toArray, List.set_cons_zero, List.set_cons_succ]
          clear hHeld
          refine wpAnyH_done (by kernel_rfl) ?_ _
          go_wp2_with fail
          refine ret5 Tryz.results88 rfl rfl (Rw.set (Rw.alloc (X6.out.same rfl) _) _).box rfl ?_
          have GE := Lib.hid (show w.grownBy ((w6.drew.alloc (.cells #[.string vn, .bool tx, .int .i64 nv, .string vt] 47)).setRow w.heap.size _) (some p) from gr_row (gr_alloc (gr_drew G6.out) _) (Nat.le_refl _) #[.int .i64 5, .string sn, .string ⟨#[]⟩, .slice (some ⟨w6.drew.heap.size, 0, none⟩) 1 1, .slice none 0 0])
          cases tx with
          | false => exact ⟨GE.out, Or.inl ⟨by rw [HLV.out, ← HTX.out]; rfl, _, _, _, _, _, _, _, _, _, rfl⟩⟩
          | true =>
            have ha := att_new (W := w6.drew) (z := w.heap.size + 1) v HVO.out (show w.heap.size + 1 ≤ w6.heap.size from by have := X6.out.lt; omega) _ _ _ _ HAC.out
            have hr6 : RdAt w6 p z r2 := by rw [HW6.out]; exact R5.out.alloc hz _
            exact ⟨GE.out, Or.inr ⟨_, r2, some ⟨w6.drew.heap.size, 0, none⟩, 1, none, 0, by rw [HLV.out, ← HTX.out]; rfl, by rw [← HK.out.2.1]; rfl, rd_row (RdAt.alloc (W := w6.drew) (hr6.keep rfl fun _ _ => rfl) hz _) (fun e => hpne e) (by omega) _, HM2.out, leaf_own (by have := HTG.out.2.2.2.2.2.2; unfold maxLen; omega) (by simp) (by decide) (ha.row (Nat.lt_succ_self _) _)⟩⟩
end Go.Proofs.YtjffnjiggcfhcaaGreatDoor.Fl
