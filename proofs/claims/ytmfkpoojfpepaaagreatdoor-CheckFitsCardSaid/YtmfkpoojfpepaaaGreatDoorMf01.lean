/-
  Contract of the document's answer typed: is a filter well typed, by a schema that may be? Memory that was there is left as it was.
-/
import Derived.Test.YtmfkpoojfpepaaaGreatDoorMp09
import Derived.Test.YtmfkpoojfpepaaaGreatDoorMp10
import Derived.BigQuiet
import Derived.Laws.Cover1
/-
  Contracts: may a schema be (the document's Schema). Memory that was there is left as it was.
-/
namespace Go.Proofs.YtmfkpoojfpepaaaGreatDoor.Ck
open Go.RowKit Go.Proofs.YtmfkpoojfpepaaaGreatDoor.Fl Go.Proofs.YtmfkpoojfpepaaaGreatDoor.Tk
set_option linter.unusedVariables false
set_option linter.unusedSimpArgs false


set_option maxHeartbeats 4000000 in
set_option maxRecDepth 100000 in
theorem refSchema_any (l : List Nm) (t : List Bool) (a : Option Addr) (c : Nat) (b : Option Addr) (d : Nat) (w : World) (hS : SchAt w l t a b) :
    Calls Tryz.prog 27 #[.slice a l.length c, .slice b t.length d] w fun e w' => e = .returned (.bool (schB l t)) ∧ Below w.heap.size w w' := by
  have CN := Lib.hid (fun (s : ByteArray) (hs : s.size ≤ maxLen) (W : World) (h : Below w.heap.size w W) => refName_any s W)
  have HS := Lib.hid hS
  obtain ⟨n, hn⟩ : ∃ n, n = l.length := ⟨_, rfl⟩
  obtain ⟨m, hm⟩ : ∃ n, n = t.length := ⟨_, rfl⟩
  have h100 : n ≤ 100 := by rw [hn]; exact hS.1
  have hbt : m ≤ 9223372036854775807 := by have := hS.2.2.1; unfold maxLen at this; omega
  have HN := Lib.hid hn
  have HM := Lib.hid hm
  obtain ⟨res, hres⟩ : ∃ r, r = schB l t := ⟨_, rfl⟩
  have HR := Lib.hid hres
  rw [← hres, ← hn, ← hm]
  clear hn hm hS hres
  have HB := Lib.hid (Below.refl w.heap.size w)
  go_enter Tryz.func27, Tryz.ntmps27
  go_wp2_with fail
  go_loopw [5] (fun vi wr => ScR l w vi wr) (fun vi _ => n - (intOf vi).toNat)
  case atStart => exact ⟨0, Nat.zero_le _, rfl, Lib.hid rfl, Below.refl _ _⟩
  case round =>
    obtain ⟨k, hk, rfl, hall, hBB⟩ := hrel
    have HK := Lib.hid hk
    have HBB := Lib.hid hBB
    have HBW := Lib.hid (HB.out.trans (hBB.mono HB.out.size))
    have HALL := Lib.hid hall.out
    skip
    clear hk hBB hall
    by_cases hlt : k < n
    · have hlz : (k : Int) < (n : Int) := by omega
      have hkl : k < l.length := by rw [← HN.out]; exact hlt
      obtain ⟨g, o, hg, hgl, hc⟩ := (HS.out.fit HBW.out).2.1.2.2 (by omega)
      have e0 := hc k hkl
      obtain ⟨U, hU⟩ : ∃ V, V = l[k] := ⟨_, rfl⟩
      rw [← hU] at e0
      have HU := Lib.hid (show l[k]? = some U by rw [hU]; exact List.getElem?_eq_getElem hkl)
      have HSL := Lib.hid (HS.out.2.1.2.1 U (List.mem_of_getElem? HU.out))
      obtain ⟨s1, q1, f1⟩ := bs_bytes U
      rw [q1] at e0
      have HSX := Lib.hid f1
      have HSZ := Lib.hid (show s1.size ≤ maxLen by rw [← size_list, f1]; exact HSL.out)
      subst hg
      by_cases hk0 : k = 0
      · subst hk0
        rw [Nat.add_zero] at e0
        clear hc hU q1 f1 hgl
        by_cases hnb : nameB U = true
        · have HBAD := Lib.hid (show badN l 0 = false by rw [bad_at HU.out, hnb]; simp)
          have CX := Lib.hid (CN.out s1 HSZ.out wr HBW.out)
          rw [HSX.out, hnb] at CX
          clear hnb
          go_wp2_with fail
          refine Calls.mono CX.out ?_
          rintro e w2 ⟨rfl, hb⟩
          have HB2 := Lib.hid (HBB.out.trans (hb.mono HBB.out.size))
          have r0 := cell_later hb e0
          clear hb
          go_wp2_with fail
          go_big_quiet (fail)
          all_goals
            go_wp2_with fail
            go_roundw
            case rel => exact ⟨1, by have := HN.out; omega, by go_num, Lib.hid (anyTo_next HALL.out HBAD.out), below_drewN HB2.out _⟩
            case measure => simp [intOf]; omega
        · have HF := Lib.hid (show res = false by rw [HR.out]; exact bad_yes (by have := HN.out; omega) (by rw [bad_at HU.out]; simp [hnb]))
          have CX := Lib.hid (CN.out s1 HSZ.out wr HBW.out)
          rw [HSX.out, Bool.eq_false_iff.2 hnb] at CX
          clear hnb
          go_wp2_with fail
          refine Calls.mono CX.out ?_
          rintro e w2 ⟨rfl, hb⟩
          have HB2 := Lib.hid (HBB.out.trans (hb.mono HBB.out.size))
          have r0 := cell_later hb e0
          clear hb
          go_wp2_with fail
          go_big_quiet (fail)
          all_goals
            go_wp2_with fail
            go_ret
            exact ⟨by rw [HF.out]; rfl, below_drewN HB2.out _⟩
      · have hk0z : (0 : Int) < (k : Int) := by omega
        have hk0b : decide ((0 : Int) < (k : Int)) = true := decide_eq_true hk0z
        have hk0n : 0 < k := by omega
        have hk0d : decide (0 < k) = true := decide_eq_true hk0n
        have e9 := hc (k - 1) (by omega)
        obtain ⟨V, hV⟩ : ∃ V, V = l[k - 1] := ⟨_, rfl⟩
        rw [← hV] at e9
        have HV := Lib.hid (show l.getD (k - 1) [] = V by rw [hV, List.getD_eq_getElem?_getD, List.getElem?_eq_getElem (by omega)]; rfl)
        obtain ⟨s2, q2, f2⟩ := bs_bytes V
        rw [q2] at e9
        have hbl := bytes_lt f2 f1
        obtain ⟨j, hj⟩ : ∃ j, k = j + 1 := ⟨k - 1, by omega⟩
        have hj1 : (k : Int) - 1 = (j : Int) := by omega
        have hjn : (j : Int) < (n : Int) := by omega
        have hjm : j < n := by omega
        rw [show k - 1 = j by omega] at e9 HV
        have HJ := Lib.hid (show k - 1 = j by omega)
        clear hj hk0
        clear hc hU q1 f1 hgl hV q2 f2
        by_cases hvu : V < U
        · rw [decide_eq_true hvu] at hbl
          have HVU := Lib.hid hvu
          clear hvu
          by_cases hnb : nameB U = true
          · have HBAD := Lib.hid (show badN l k = false by rw [bad_at HU.out, hnb]; rw [HJ.out, HV.out, decide_eq_true HVU.out]; simp)
            have CX := Lib.hid (CN.out s1 HSZ.out wr HBW.out)
            rw [HSX.out, hnb] at CX
            clear hnb
            go_wp2_with fail
            refine Calls.mono CX.out ?_
            rintro e w2 ⟨rfl, hb⟩
            have HB2 := Lib.hid (HBB.out.trans (hb.mono HBB.out.size))
            have r0 := cell_later hb e0
            have r9 := cell_later hb e9
            clear hb
            go_wp2_with fail
            go_big_quiet (fail)
            all_goals
              go_wp2_with fail
              go_roundw
              case rel => exact ⟨k + 1, by have := HN.out; omega, by go_num, Lib.hid (anyTo_next HALL.out HBAD.out), below_drewN HB2.out _⟩
              case measure => simp [intOf]; omega
          · have HF := Lib.hid (show res = false by rw [HR.out]; exact bad_yes (by have := HN.out; omega) (by rw [bad_at HU.out]; simp [hnb]))
            have CX := Lib.hid (CN.out s1 HSZ.out wr HBW.out)
            rw [HSX.out, Bool.eq_false_iff.2 hnb] at CX
            clear hnb
            go_wp2_with fail
            refine Calls.mono CX.out ?_
            rintro e w2 ⟨rfl, hb⟩
            have HB2 := Lib.hid (HBB.out.trans (hb.mono HBB.out.size))
            have r0 := cell_later hb e0
            have r9 := cell_later hb e9
            clear hb
            go_wp2_with fail
            go_big_quiet (fail)
            all_goals
              go_wp2_with fail
              go_ret
              exact ⟨by rw [HF.out]; rfl, below_drewN HB2.out _⟩
        · rw [decide_eq_false hvu] at hbl
          have HF := Lib.hid (show res = false by rw [HR.out]; exact bad_yes (by have := HN.out; omega) (by rw [bad_at HU.out, HJ.out, HV.out, decide_eq_true (show 0 < k by omega)]; simp [hvu]))
          clear hvu
          by_cases hnb : nameB U = true
          · have CX := Lib.hid (CN.out s1 HSZ.out wr HBW.out)
            rw [HSX.out, hnb] at CX
            clear hnb
            go_wp2_with fail
            refine Calls.mono CX.out ?_
            rintro e w2 ⟨rfl, hb⟩
            have HB2 := Lib.hid (HBB.out.trans (hb.mono HBB.out.size))
            have r0 := cell_later hb e0
            have r9 := cell_later hb e9
            clear hb
            go_wp2_with fail
            go_big_quiet (fail)
            all_goals
              go_wp2_with fail
              go_ret
              exact ⟨by rw [HF.out]; rfl, below_drewN HB2.out _⟩
          · have CX := Lib.hid (CN.out s1 HSZ.out wr HBW.out)
            rw [HSX.out, Bool.eq_false_iff.2 hnb] at CX
            clear hnb
            go_wp2_with fail
            refine Calls.mono CX.out ?_
            rintro e w2 ⟨rfl, hb⟩
            have HB2 := Lib.hid (HBB.out.trans (hb.mono HBB.out.size))
            have r0 := cell_later hb e0
            have r9 := cell_later hb e9
            clear hb
            go_wp2_with fail
            go_big_quiet (fail)
            all_goals
              go_wp2_with fail
              go_ret
              exact ⟨by rw [HF.out]; rfl, below_drewN HB2.out _⟩
    · have hlz : ¬ (k : Int) < (n : Int) := by omega
      have HF := Lib.hid (show res = decide (n = m) by rw [HR.out, HN.out, HM.out]; exact bad_none (by have := HN.out; have := HK.out; omega) HALL.out)
      by_cases hnm : n = m
      · have hnmz : ((n : Nat) : Int) = (m : Nat) := by omega
        go_wp2_with fail
        go_ret
        exact ⟨by rw [HF.out, decide_eq_true hnm]; first | rfl | simp [hnm], HBW.out⟩
      · have hnmz : ¬ ((n : Nat) : Int) = (m : Nat) := by omega
        go_wp2_with fail
        go_ret
        exact ⟨by rw [HF.out, decide_eq_false hnm]; first | rfl | (simp; omega), HBW.out⟩

end Go.Proofs.YtmfkpoojfpepaaaGreatDoor.Ck
namespace Go.Proofs.YtmfkpoojfpepaaaGreatDoor.Ck
open Go.RowKit Go.Proofs.YtmfkpoojfpepaaaGreatDoor.Fl Go.Proofs.YtmfkpoojfpepaaaGreatDoor.Tk
set_option linter.unusedVariables false
set_option linter.unusedSimpArgs false

def RtyOk (ns : List Nm) (ts : List Bool) (a0 : Option Addr) (c0 : Nat) (b0 : Option Addr) (d0 : Nat) (f : Flt) : Prop := ∀ (a : Option Addr) (c : Nat) (b : Option Addr) (d : Nat) (w : World), FltAt w (Old w.heap.size) f a b → SchAt w ns ts a0 b0 →
  Calls Tryz.prog 30 #[.slice a0 ns.length c0, .slice b0 ts.length d0, .agg #[.int .i64 f.kind, bs f.name, bs f.op, .slice a f.vals.length c, .slice b f.parts.length d]] w fun e w' => e = .returned (.bool (typB ns ts f)) ∧ Below w.heap.size w w'
theorem SchAt.nms {W : World} {l : List Nm} {t : List Bool} {a b : Option Addr} (h : SchAt W l t a b) : NmsAt W (Old W.heap.size) a l := h.2.1
theorem SchAt.bls {W : World} {l : List Nm} {t : List Bool} {a b : Option Addr} (h : SchAt W l t a b) : BlsAt W (Old W.heap.size) b t := h.2.2
set_option maxHeartbeats 8000000 in
set_option maxRecDepth 100000 in
theorem rty_ok (ns : List Nm) (ts : List Bool) (a0 : Option Addr) (c0 : Nat) (b0 : Option Addr) (d0 : Nat) (hlen0 : ns.length = ts.length) (f : Flt) (ih : ∀ q ∈ f.parts, RtyOk ns ts a0 c0 b0 d0 q) : RtyOk ns ts a0 c0 b0 d0 f := by
  obtain ⟨k, nm, o, vs, ps⟩ := f
  intro a c b d w hF hS
  simp only [Flt.kind, Flt.name, Flt.op, Flt.vals, Flt.parts] at ih ⊢
  obtain ⟨sn, en, hsn⟩ := bs_bytes nm
  obtain ⟨so, eo, hso⟩ := bs_bytes o
  rw [en, eo]
  have IH := Lib.hid ih
  have HA := Lib.hid hF.atts
  have HP := Lib.hid hF.parts
  simp only [Flt.vals] at HA
  simp only [Flt.parts] at HP
  have HSN := Lib.hid hsn
  have HS := Lib.hid hS
  have hlen : ps.length ≤ 9223372036854775807 := by have := hF.small.2.2.2.2; simp only [Flt.parts] at this; unfold maxLen at this; omega
  have hvl : vs.length ≤ 9223372036854775807 := by have := hF.atts.1; simp only [Flt.vals] at this; unfold maxLen at this; omega
  obtain ⟨n, hn⟩ : ∃ n, n = vs.length := ⟨_, rfl⟩
  obtain ⟨l, hl⟩ : ∃ n, n = ps.length := ⟨_, rfl⟩
  obtain ⟨nn, hnn⟩ : ∃ n, n = ns.length := ⟨_, rfl⟩
  obtain ⟨nt, hnt⟩ : ∃ n, n = ts.length := ⟨_, rfl⟩
  have HN := Lib.hid hn
  have HL := Lib.hid hl
  have HNN := Lib.hid hnn
  have HNT := Lib.hid hnt
  rw [← hn] at hvl
  rw [← hl] at hlen
  obtain ⟨res, hres⟩ : ∃ x, x = typB ns ts (.mk k nm o vs ps) := ⟨_, rfl⟩
  have HR := Lib.hid hres
  obtain ⟨r, hr⟩ : ∃ x, x = isT ns ts nm := ⟨_, rfl⟩
  have HRR := Lib.hid hr
  have CT := Lib.hid (fun W h => find_any ns ts sn a0 c0 b0 d0 W hlen0 (SchAt.nms h) (SchAt.bls h))
  rw [hsn] at CT
  rw [← hres, ← hn, ← hl, ← hnn, ← hnt]
  rw [← hnn, ← hnt] at CT
  clear ih hF en eo hsn hso hres hn hl hnn hnt hS hr
  obtain ⟨x, hx⟩ : ∃ x, x = fnd ns ts nm := ⟨_, rfl⟩
  have hx1 : (x == 1) = r := by
    rw [HRR.out, hx]
    unfold isT
    rcases fnd_range ns ts nm with h | h | h <;> rw [h] <;> rfl
  rw [← hx] at CT
  clear hx
  obtain ⟨w1, hw1⟩ : ∃ v, v = w.alloc (.cells #[.int .i64 k, .string sn, .string so, .slice a n c, .slice b l d] 27) := ⟨_, rfl⟩
  have Y1 := Lib.hid (show Box w1 w.heap.size (.int .i64 k) (.string sn) (.string so) (.slice a n c) (.slice b l d) by rw [hw1]; exact Box.new ..)
  have HB := Lib.hid (show Below w.heap.size w w1 by rw [hw1]; exact (Below.refl _ _).alloc (Nat.le_refl _) _)
  have HW := Lib.hid hw1
  clear hw1
  go_enter Tryz.func30, Tryz.ntmps30
  go_wp2_with fail
  rw [← HW.out]
  go_loopw [7] (fun vi wr => TyV r vs w1 vi wr) (fun vi _ => n - (intOf vi).toNat)
  case atStart => exact ⟨0, Nat.zero_le _, rfl, Lib.hid (by simp), Below.refl _ _⟩
  case round =>
    obtain ⟨j, hk, rfl, hall, hBB⟩ := hrel
    have HK := Lib.hid hk
    have HBB := Lib.hid hBB
    have HBW := Lib.hid (HB.out.trans (hBB.mono HB.out.size))
    have HALL := Lib.hid hall.out
    have Y3 := Lib.hid (Y1.out.later hBB)
    obtain ⟨p0, p1, p2, p3, p4⟩ := Y3.out
    clear hk hBB hall
    by_cases hlt : j < n
    · have hlz : (j : Int) < (n : Int) := by omega
      have hku : j < vs.length := by rw [← HN.out]; exact hlt
      obtain ⟨g, o', hg, hgl, hc⟩ := (HA.out.later HBW.out).2.2 (by omega)
      obtain ⟨e0, e1, e2, e3⟩ := hc j hku
      obtain ⟨U, hU⟩ : ∃ V, V = vs[j] := ⟨_, rfl⟩
      rw [← hU] at e0 e1 e2 e3
      have HUK := Lib.hid (show vs[j]? = some U by rw [hU]; exact List.getElem?_eq_getElem hku)
      obtain ⟨s1, q1, f1⟩ := bs_bytes U.name
      obtain ⟨t1, q2, f2⟩ := bs_bytes U.str
      obtain ⟨tx, htx⟩ : ∃ x, x = U.text := ⟨_, rfl⟩
      obtain ⟨nu, hnu⟩ : ∃ x, x = U.num := ⟨_, rfl⟩
      have HTX := Lib.hid htx
      rw [q1] at e0
      rw [← htx] at e1
      rw [← hnu] at e2
      rw [q2] at e3
      subst hg
      clear hc hU q1 q2 f1 f2 hgl htx hnu
      have HQ := Lib.hid (show ∀ W, Below wr.heap.size wr W → (fun W => W.cell? ⟨w.heap.size, 1, none⟩ = some (.string sn) ∧ W.cell? ⟨w.heap.size, 3, none⟩ = some (.slice (some ⟨g, o', none⟩) n c) ∧ W.cell? ⟨g, o' + j * 4 + 1, none⟩ = some (.bool tx) ∧ Below wr.heap.size wr W) W from fun W hW => by
        obtain ⟨y0, y1, y2, y3, y4⟩ := Y3.out.later hW
        exact ⟨y1, y3, cell_later hW e1, hW⟩)
      by_cases htr : tx = r
      · have HTR := Lib.hid (show U.text = r by rw [← HTX.out]; exact htr)
        have hq : (tx == r) = true := by simpa using htr
        go_wp2_with fail
        refine wp_region_held_drew (S := (fun W => W.cell? ⟨w.heap.size, 1, none⟩ = some (.string sn) ∧ W.cell? ⟨w.heap.size, 3, none⟩ = some (.slice (some ⟨g, o', none⟩) n c) ∧ W.cell? ⟨g, o' + j * 4 + 1, none⟩ = some (.bool tx) ∧ Below wr.heap.size wr W)) (by kernel_rfl) (HQ.out _ (Below.refl _ _).drew) (fun hHeld => ?_)
        refine wpAnyH_take (i := 0) (v := ?vA0) rfl (by kernel_rfl) (by kernel_rfl) (by kernel_rfl) (fun _ _ _ h => h) (Or.inl ⟨by rfl, ?yA0⟩) hHeld ?rA0
        case yA0 => (intro W hSw; simp only [List.getElem_toArray, List.getElem_cons_zero]; go_simp; try (with_reducible rfl))
        simp only [List.getElem_toArray, List.getElem_cons_zero, Act.put, List.setIfInBounds_toArray, List.set_cons_zero, List.set_cons_succ]
        refine wpAnyH_take (i := 1) (v := ?vA1) rfl (by kernel_rfl) (by kernel_rfl) (by kernel_rfl) (fun _ _ _ h => h) (Or.inl ⟨by rfl, ?yA1⟩) hHeld ?rA1
        case yA1 => (intro W hSw; simp only [List.getElem_toArray, List.getElem_cons_succ, List.getElem_cons_zero]; go_simp; try (with_reducible rfl))
        simp only [List.getElem_toArray, List.getElem_cons_succ, List.getElem_cons_zero, Act.put, List.setIfInBounds_toArray, List.set_cons_zero, List.set_cons_succ]
        refine wpAnyH_take (i := 2) (v := ?vA2) rfl (by kernel_rfl) (by kernel_rfl) (by kernel_rfl) (fun _ _ _ h => h) (Or.inl ⟨by rfl, ?yA2⟩) hHeld ?rA2
        case yA2 => (intro W hSw; simp only [List.getElem_toArray, List.getElem_cons_succ, List.getElem_cons_zero]; go_simp; try (with_reducible rfl))
        simp only [List.getElem_toArray, List.getElem_cons_succ, List.getElem_cons_zero, Act.put, List.setIfInBounds_toArray, List.set_cons_zero, List.set_cons_succ]
        refine wpAnyH_take (i := 3) (v := ?vA3) rfl (by kernel_rfl) (by kernel_rfl) (by kernel_rfl) (fun _ _ _ h => h) (Or.inl ⟨by rfl, ?yA3⟩) hHeld ?rA3
        case yA3 => (intro W hSw; simp only [List.getElem_toArray, List.getElem_cons_succ, List.getElem_cons_zero]; go_simp; try (with_reducible rfl))
        simp only [List.getElem_toArray, List.getElem_cons_succ, List.getElem_cons_zero, Act.put, List.setIfInBounds_toArray, List.set_cons_zero, List.set_cons_succ]
        refine wpAnyH_take (i := 4) (v := ?vA4) rfl (by kernel_rfl) (by kernel_rfl) (by kernel_rfl) (fun _ _ _ h => h) (Or.inl ⟨by rfl, ?yA4⟩) hHeld ?rA4
        case yA4 => (intro W hSw; simp only [List.getElem_toArray, List.getElem_cons_succ, List.getElem_cons_zero]; go_simp; try (with_reducible rfl))
        simp only [List.getElem_toArray, List.getElem_cons_succ, List.getElem_cons_zero, Act.put, List.setIfInBounds_toArray, List.set_cons_zero, List.set_cons_succ]
        refine wpAnyH_take (i := 5) (v := ?vA5) rfl (by kernel_rfl) (by kernel_rfl) (by kernel_rfl) (fun _ _ _ h => h) (Or.inl ⟨by rfl, ?yA5⟩) hHeld ?rA5
        case yA5 => (intro W hSw; simp only [List.getElem_toArray, List.getElem_cons_succ, List.getElem_cons_zero]; go_simp; try (with_reducible rfl))
        simp only [List.getElem_toArray, List.getElem_cons_succ, List.getElem_cons_zero, Act.put, List.setIfInBounds_toArray, List.set_cons_zero, List.set_cons_succ]
        refine wpAnyH_take (i := 6) (v := ?vA6) rfl (by kernel_rfl) (by kernel_rfl) (by kernel_rfl) (fun _ _ _ h => h) (Or.inl ⟨by rfl, ?yA6⟩) hHeld ?rA6
        case yA6 => (intro W hSw; simp only [List.getElem_toArray, List.getElem_cons_succ, List.getElem_cons_zero]; go_simp; try (with_reducible rfl))
        simp only [List.getElem_toArray, List.getElem_cons_succ, List.getElem_cons_zero, Act.put, List.setIfInBounds_toArray, List.set_cons_zero, List.set_cons_succ]
        refine wpAnyH_take (i := 7) (v := ?vA7) rfl (by kernel_rfl) (by kernel_rfl) (by kernel_rfl) (fun _ _ _ h => h) (Or.inl ⟨by rfl, ?yA7⟩) hHeld ?rA7
        case yA7 => (intro W hSw; simp only [List.getElem_toArray, List.getElem_cons_succ, List.getElem_cons_zero]; go_simp; try (with_reducible rfl))
        simp only [List.getElem_toArray, List.getElem_cons_succ, List.getElem_cons_zero, Act.put, List.setIfInBounds_toArray, List.set_cons_zero, List.set_cons_succ]
        refine wpAnyH_take (i := 8) (v := ?vA8) rfl (by kernel_rfl) (by kernel_rfl) (by kernel_rfl) (fun _ _ _ h => h) (Or.inl ⟨by rfl, ?yA8⟩) hHeld ?rA8
        case yA8 => (intro W hSw; simp only [List.getElem_toArray, List.getElem_cons_succ, List.getElem_cons_zero]; go_simp; try (with_reducible rfl))
        simp only [List.getElem_toArray, List.getElem_cons_succ, List.getElem_cons_zero, Act.put, List.setIfInBounds_toArray, List.set_cons_zero, List.set_cons_succ]
        refine wpAnyH_take (i := 9) (v := ?vA9) rfl (by kernel_rfl) (by kernel_rfl) (by kernel_rfl) (fun _ _ _ h => h) (Or.inl ⟨by rfl, ?yA9⟩) hHeld ?rA9
        case yA9 => (intro W hSw; simp only [List.getElem_toArray, List.getElem_cons_succ, List.getElem_cons_zero]; go_simp; try (with_reducible rfl))
        simp only [List.getElem_toArray, List.getElem_cons_succ, List.getElem_cons_zero, Act.put, List.setIfInBounds_toArray, List.set_cons_zero, List.set_cons_succ]
        refine wpAnyH_ready (rs := [10]) (by kernel_rfl) (by simp) (AllReadyH.cons rfl (fun K hK => ?_) AllReadyH.nil)
        simp only [List.getElem_toArray, List.getElem_cons_succ, List.getElem_cons_zero]
        go_simp
        go_at_call 29; refine (CT.out _ ((HS.out.fit HBW.out).fit hHeld.2.2.2)).mono ?_; rintro e wq ⟨rfl, hb0⟩
        try go_wp2_with fail
        refine hK.out _ _ (HQ.out _ (hb0 ▸ hHeld.2.2.2)) (fun hHeld1 => ?_)
        clear hK K hHeld
        have hHeld := hHeld1; clear hHeld1
        try simp only [List.getElem_toArray, List.getElem_cons_succ, List.getElem_cons_zero, Act.put, List.setIfInBounds_toArray, List.set_cons_zero, List.set_cons_succ]
        refine wpAnyH_take (i := 11) (v := ?vA11) rfl (by kernel_rfl) (by kernel_rfl) (by kernel_rfl) (fun _ _ _ h => h) (Or.inl ⟨by rfl, ?yA11⟩) hHeld ?rA11
        case yA11 => (intro W hSw; simp only [List.getElem_toArray, List.getElem_cons_succ, List.getElem_cons_zero]; go_simp; try (with_reducible rfl))
        simp only [List.getElem_toArray, List.getElem_cons_succ, List.getElem_cons_zero, Act.put, List.setIfInBounds_toArray, List.set_cons_zero, List.set_cons_succ]
        refine wpAnyH_take (i := 12) (v := ?vA12) rfl (by kernel_rfl) (by kernel_rfl) (by kernel_rfl) (fun _ _ _ h => h) (Or.inl ⟨by rfl, ?yA12⟩) hHeld ?rA12
        case yA12 => (intro W hSw; simp only [List.getElem_toArray, List.getElem_cons_succ, List.getElem_cons_zero]; go_simp; try (with_reducible rfl))
        simp only [List.getElem_toArray, List.getElem_cons_succ, List.getElem_cons_zero, Act.put, List.setIfInBounds_toArray, List.set_cons_zero, List.set_cons_succ]
        refine wpAnyH_done (by kernel_rfl) ?_ _
        have B7 := Lib.hid (HBB.out.trans (hHeld.2.2.2.mono HBB.out.size))
        clear hHeld
        go_wp2_with fail
        go_roundw
        case rel => exact ⟨j + 1, by have := HN.out; omega, by go_num, Lib.hid (take_all HALL.out HUK.out HTR.out), B7.out⟩
        case measure => simp [intOf]; omega
      · have HF := Lib.hid (show res = false by rw [HR.out]; exact typ_val (List.mem_of_getElem? HUK.out) (by rw [← HTX.out, ← HRR.out]; exact htr))
        have hq : (tx == r) = false := by simpa using htr
        go_wp2_with fail
        refine wp_region_held_drew (S := (fun W => W.cell? ⟨w.heap.size, 1, none⟩ = some (.string sn) ∧ W.cell? ⟨w.heap.size, 3, none⟩ = some (.slice (some ⟨g, o', none⟩) n c) ∧ W.cell? ⟨g, o' + j * 4 + 1, none⟩ = some (.bool tx) ∧ Below wr.heap.size wr W)) (by kernel_rfl) (HQ.out _ (Below.refl _ _).drew) (fun hHeld => ?_)
        refine wpAnyH_take (i := 0) (v := ?vB0) rfl (by kernel_rfl) (by kernel_rfl) (by kernel_rfl) (fun _ _ _ h => h) (Or.inl ⟨by rfl, ?yB0⟩) hHeld ?rB0
        case yB0 => (intro W hSw; simp only [List.getElem_toArray, List.getElem_cons_zero]; go_simp; try (with_reducible rfl))
        simp only [List.getElem_toArray, List.getElem_cons_zero, Act.put, List.setIfInBounds_toArray, List.set_cons_zero, List.set_cons_succ]
        refine wpAnyH_take (i := 1) (v := ?vB1) rfl (by kernel_rfl) (by kernel_rfl) (by kernel_rfl) (fun _ _ _ h => h) (Or.inl ⟨by rfl, ?yB1⟩) hHeld ?rB1
        case yB1 => (intro W hSw; simp only [List.getElem_toArray, List.getElem_cons_succ, List.getElem_cons_zero]; go_simp; try (with_reducible rfl))
        simp only [List.getElem_toArray, List.getElem_cons_succ, List.getElem_cons_zero, Act.put, List.setIfInBounds_toArray, List.set_cons_zero, List.set_cons_succ]
        refine wpAnyH_take (i := 2) (v := ?vB2) rfl (by kernel_rfl) (by kernel_rfl) (by kernel_rfl) (fun _ _ _ h => h) (Or.inl ⟨by rfl, ?yB2⟩) hHeld ?rB2
        case yB2 => (intro W hSw; simp only [List.getElem_toArray, List.getElem_cons_succ, List.getElem_cons_zero]; go_simp; try (with_reducible rfl))
        simp only [List.getElem_toArray, List.getElem_cons_succ, List.getElem_cons_zero, Act.put, List.setIfInBounds_toArray, List.set_cons_zero, List.set_cons_succ]
        refine wpAnyH_take (i := 3) (v := ?vB3) rfl (by kernel_rfl) (by kernel_rfl) (by kernel_rfl) (fun _ _ _ h => h) (Or.inl ⟨by rfl, ?yB3⟩) hHeld ?rB3
        case yB3 => (intro W hSw; simp only [List.getElem_toArray, List.getElem_cons_succ, List.getElem_cons_zero]; go_simp; try (with_reducible rfl))
        simp only [List.getElem_toArray, List.getElem_cons_succ, List.getElem_cons_zero, Act.put, List.setIfInBounds_toArray, List.set_cons_zero, List.set_cons_succ]
        refine wpAnyH_take (i := 4) (v := ?vB4) rfl (by kernel_rfl) (by kernel_rfl) (by kernel_rfl) (fun _ _ _ h => h) (Or.inl ⟨by rfl, ?yB4⟩) hHeld ?rB4
        case yB4 => (intro W hSw; simp only [List.getElem_toArray, List.getElem_cons_succ, List.getElem_cons_zero]; go_simp; try (with_reducible rfl))
        simp only [List.getElem_toArray, List.getElem_cons_succ, List.getElem_cons_zero, Act.put, List.setIfInBounds_toArray, List.set_cons_zero, List.set_cons_succ]
        refine wpAnyH_take (i := 5) (v := ?vB5) rfl (by kernel_rfl) (by kernel_rfl) (by kernel_rfl) (fun _ _ _ h => h) (Or.inl ⟨by rfl, ?yB5⟩) hHeld ?rB5
        case yB5 => (intro W hSw; simp only [List.getElem_toArray, List.getElem_cons_succ, List.getElem_cons_zero]; go_simp; try (with_reducible rfl))
        simp only [List.getElem_toArray, List.getElem_cons_succ, List.getElem_cons_zero, Act.put, List.setIfInBounds_toArray, List.set_cons_zero, List.set_cons_succ]
        refine wpAnyH_take (i := 6) (v := ?vB6) rfl (by kernel_rfl) (by kernel_rfl) (by kernel_rfl) (fun _ _ _ h => h) (Or.inl ⟨by rfl, ?yB6⟩) hHeld ?rB6
        case yB6 => (intro W hSw; simp only [List.getElem_toArray, List.getElem_cons_succ, List.getElem_cons_zero]; go_simp; try (with_reducible rfl))
        simp only [List.getElem_toArray, List.getElem_cons_succ, List.getElem_cons_zero, Act.put, List.setIfInBounds_toArray, List.set_cons_zero, List.set_cons_succ]
        refine wpAnyH_take (i := 7) (v := ?vB7) rfl (by kernel_rfl) (by kernel_rfl) (by kernel_rfl) (fun _ _ _ h => h) (Or.inl ⟨by rfl, ?yB7⟩) hHeld ?rB7
        case yB7 => (intro W hSw; simp only [List.getElem_toArray, List.getElem_cons_succ, List.getElem_cons_zero]; go_simp; try (with_reducible rfl))
        simp only [List.getElem_toArray, List.getElem_cons_succ, List.getElem_cons_zero, Act.put, List.setIfInBounds_toArray, List.set_cons_zero, List.set_cons_succ]
        refine wpAnyH_take (i := 8) (v := ?vB8) rfl (by kernel_rfl) (by kernel_rfl) (by kernel_rfl) (fun _ _ _ h => h) (Or.inl ⟨by rfl, ?yB8⟩) hHeld ?rB8
        case yB8 => (intro W hSw; simp only [List.getElem_toArray, List.getElem_cons_succ, List.getElem_cons_zero]; go_simp; try (with_reducible rfl))
        simp only [List.getElem_toArray, List.getElem_cons_succ, List.getElem_cons_zero, Act.put, List.setIfInBounds_toArray, List.set_cons_zero, List.set_cons_succ]
        refine wpAnyH_take (i := 9) (v := ?vB9) rfl (by kernel_rfl) (by kernel_rfl) (by kernel_rfl) (fun _ _ _ h => h) (Or.inl ⟨by rfl, ?yB9⟩) hHeld ?rB9
        case yB9 => (intro W hSw; simp only [List.getElem_toArray, List.getElem_cons_succ, List.getElem_cons_zero]; go_simp; try (with_reducible rfl))
        simp only [List.getElem_toArray, List.getElem_cons_succ, List.getElem_cons_zero, Act.put, List.setIfInBounds_toArray, List.set_cons_zero, List.set_cons_succ]
        refine wpAnyH_ready (rs := [10]) (by kernel_rfl) (by simp) (AllReadyH.cons rfl (fun K hK => ?_) AllReadyH.nil)
        simp only [List.getElem_toArray, List.getElem_cons_succ, List.getElem_cons_zero]
        go_simp
        go_at_call 29; refine (CT.out _ ((HS.out.fit HBW.out).fit hHeld.2.2.2)).mono ?_; rintro e wq ⟨rfl, hb0⟩
        try go_wp2_with fail
        refine hK.out _ _ (HQ.out _ (hb0 ▸ hHeld.2.2.2)) (fun hHeld1 => ?_)
        clear hK K hHeld
        have hHeld := hHeld1; clear hHeld1
        try simp only [List.getElem_toArray, List.getElem_cons_succ, List.getElem_cons_zero, Act.put, List.setIfInBounds_toArray, List.set_cons_zero, List.set_cons_succ]
        refine wpAnyH_take (i := 11) (v := ?vB11) rfl (by kernel_rfl) (by kernel_rfl) (by kernel_rfl) (fun _ _ _ h => h) (Or.inl ⟨by rfl, ?yB11⟩) hHeld ?rB11
        case yB11 => (intro W hSw; simp only [List.getElem_toArray, List.getElem_cons_succ, List.getElem_cons_zero]; go_simp; try (with_reducible rfl))
        simp only [List.getElem_toArray, List.getElem_cons_succ, List.getElem_cons_zero, Act.put, List.setIfInBounds_toArray, List.set_cons_zero, List.set_cons_succ]
        refine wpAnyH_take (i := 12) (v := ?vB12) rfl (by kernel_rfl) (by kernel_rfl) (by kernel_rfl) (fun _ _ _ h => h) (Or.inl ⟨by rfl, ?yB12⟩) hHeld ?rB12
        case yB12 => (intro W hSw; simp only [List.getElem_toArray, List.getElem_cons_succ, List.getElem_cons_zero]; go_simp; try (with_reducible rfl))
        simp only [List.getElem_toArray, List.getElem_cons_succ, List.getElem_cons_zero, Act.put, List.setIfInBounds_toArray, List.set_cons_zero, List.set_cons_succ]
        refine wpAnyH_done (by kernel_rfl) ?_ _
        have B7 := Lib.hid (HBB.out.trans (hHeld.2.2.2.mono HBB.out.size))
        clear hHeld
        go_wp2_with fail
        go_ret
        exact ⟨by rw [HF.out]; rfl, HB.out.trans (B7.out.mono HB.out.size)⟩
    · have hlz : ¬ (j : Int) < (n : Int) := by omega
      have HVA := Lib.hid (show ∀ v ∈ vs, v.text = isT ns ts nm by
        have h := HALL.out
        rw [show j = vs.length by have := HN.out; have := HK.out; omega, List.take_length] at h
        rw [← HRR.out]; exact h)
      obtain ⟨wb, hwb⟩ : ∃ v, v = wr := ⟨_, rfl⟩
      rw [← hwb] at HBB HBW p0 p1 p2 p3 p4 ⊢
      clear hwb HK
      go_wp2_with fail
      go_loopw [8] (fun vi wr => TyP ns ts ps w1 vi wr) (fun vi _ => l - (intOf vi).toNat)
      case atStart => exact ⟨0, Nat.zero_le _, rfl, Lib.hid (by simp), HBB.out⟩
      case round =>
        obtain ⟨j, hk, rfl, hall, hBB⟩ := hrel
        have HK := Lib.hid hk
        have HBC := Lib.hid hBB
        have HBW := Lib.hid (HB.out.trans (hBB.mono HB.out.size))
        have HALL := Lib.hid hall.out
        have Y3 := Lib.hid (Y1.out.later hBB)
        clear hk hBB hall hlt hlz p0 p1 p2 p3 p4
        obtain ⟨p0, p1, p2, p3, p4⟩ := Y3.out
        by_cases hlt : j < l
        · have hlz : (j : Int) < (l : Int) := by omega
          have hku : j < ps.length := by rw [← HL.out]; exact hlt
          obtain ⟨g, o', a1, c1, b1, d1, hg, hgl, h5, hf⟩ := (HP.out.later HBW.out).get j hku
          obtain ⟨U, hU⟩ : ∃ V, V = ps[j] := ⟨_, rfl⟩
          rw [← hU] at h5 hf
          have HUK := Lib.hid (show ps[j]? = some U by rw [hU]; exact List.getElem?_eq_getElem hku)
          have CI := Lib.hid (fun W h1 h2 => IH.out U (List.mem_of_getElem? HUK.out) a1 c1 b1 d1 W h1 h2)
          have HFU := Lib.hid hf
          have HGL := Lib.hid (show g < wr.heap.size from Nat.lt_of_lt_of_le hgl HBW.out.size)
          have hgw : g < wr.heap.size := HGL.out
          have hbw : w.heap.size < wr.heap.size := Y3.out.lt
          subst hg
          obtain ⟨e0, e1, e2, e3, e4⟩ := h5
          rw [Nat.zero_add] at e0 e1 e2 e3 e4
          obtain ⟨un, hun, _⟩ := bs_bytes U.name
          obtain ⟨uo, huo, _⟩ := bs_bytes U.op
          rw [hun] at e1 CI
          rw [huo] at e2 CI
          obtain ⟨uk, huk⟩ : ∃ x, x = U.kind := ⟨_, rfl⟩
          obtain ⟨uv, huv⟩ : ∃ x, x = U.vals.length := ⟨_, rfl⟩
          obtain ⟨up, hup⟩ : ∃ x, x = U.parts.length := ⟨_, rfl⟩
          rw [← huk] at e0 CI
          rw [← huv] at e3 CI
          rw [← hup, ← HNN.out, ← HNT.out] at CI
          rw [← hup] at e4
          clear hU hf hgl hun huo huk huv hup
          have HFU4 := Lib.hid (HFU.out.wide HBW.out.size)
          have HS4 := Lib.hid (HS.out.fit HBW.out)
          obtain ⟨xx, hx⟩ : ∃ x, x = typB ns ts U := ⟨_, rfl⟩
          have HX := Lib.hid hx
          rw [← hx] at CI
          clear hx
          cases xx with
          | true =>
            go_wp2_with fail
            refine Calls.mono (CI.out _ HFU4.out HS4.out) ?_
            rintro e w5 ⟨rfl, hb⟩
            have HB5 := Lib.hid (HBC.out.trans (hb.mono HBC.out.size))
            clear hb
            go_wp2_with fail
            go_roundw
            case rel => exact ⟨j + 1, by have := HL.out; omega, by go_num, Lib.hid (take_all HALL.out HUK.out HX.out.symm), HB5.out⟩
            case measure => simp [intOf]; omega
          | false =>
            have HF := Lib.hid (show res = false by rw [HR.out]; exact typ_sub (List.mem_of_getElem? HUK.out) HX.out.symm)
            go_wp2_with fail
            refine Calls.mono (CI.out _ HFU4.out HS4.out) ?_
            rintro e w5 ⟨rfl, hb⟩
            have HB5 := Lib.hid (HBC.out.trans (hb.mono HBC.out.size))
            clear hb
            go_wp2_with fail
            go_ret
            exact ⟨by rw [HF.out]; rfl, HB.out.trans (HB5.out.mono HB.out.size)⟩
        · have hlz : ¬ (j : Int) < (l : Int) := by omega
          have HF := Lib.hid (show res = true by
            rw [HR.out]
            refine typ_all HVA.out ?_
            have h := HALL.out
            rw [show j = ps.length by have := HL.out; have := HK.out; omega, List.take_length] at h
            exact h)
          go_wp2_with fail
          go_ret
          exact ⟨by rw [HF.out]; rfl, HBW.out⟩
theorem rty_every (ns : List Nm) (ts : List Bool) (a0 : Option Addr) (c0 : Nat) (b0 : Option Addr) (d0 : Nat) (hlen0 : ns.length = ts.length) : ∀ (N : Nat) (f : Flt), sz f ≤ N → RtyOk ns ts a0 c0 b0 d0 f
  | 0, f, h => by have := sz_pos f; omega
  | N + 1, f, h => rty_ok ns ts a0 c0 b0 d0 hlen0 f fun q hq => rty_every ns ts a0 c0 b0 d0 hlen0 N q (by
      cases f
      simp only [Flt.parts] at hq
      have := sz_mem hq
      rw [sz] at h
      omega)
end Go.Proofs.YtmfkpoojfpepaaaGreatDoor.Ck
