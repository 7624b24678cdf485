/-
  Contract of Same of package filter: are two filters the same? To any depth. Memory that was there is left as it was.
-/
import Derived.Test.YtmfkpoojfpepaaaGreatDoorMp11
import Derived.Test.YtmfkpoojfpepaaaGreatDoorMp12
import Derived.Test.YtmfkpoojfpepaaaGreatDoorMp09
import Derived.Test.YtmfkpoojfpepaaaGreatDoorMp04
import Derived.Laws.OwnMore
import Derived.Test.YtmfkpoojfpepaaaGreatDoorMp08
import Derived.Test.YtmfkpoojfpepaaaGreatDoorMp10
import Derived.BigQuiet
/-
  Contract of package check's Names: a filter's names, rising, each once, in memory of the call's own. Memory that was there is left as it was.
-/
namespace Go.Proofs.YtmfkpoojfpepaaaGreatDoor.Ck
open Go.RowKit Go.Maps Go.Proofs.YtmfkpoojfpepaaaGreatDoor.Fl Go.Proofs.YtmfkpoojfpepaaaGreatDoor.Tk
set_option linter.unusedVariables false
set_option linter.unusedSimpArgs false

theorem set_keys {W : World} {b m : Nat} {D : DataW Unit} {L : List Nm} (h : W.ownsMap Tryz.prog 9 unitElem b m D) (h2 : ∀ x : Nm, Maps.has D (.string x) = decide (x ∈ L)) : (sortN L).Perm (strKeys D) := by
  obtain ⟨es, hes, hap, hk⟩ := h.entries lawS
  obtain ⟨es', hes', hk'⟩ := h.keysOf
  subst hes
  obtain rfl : es = es' := by cases hes'; rfl
  have hstr : ∀ p ∈ es, ∃ x, p.1 = .string x := by
    intro p hp
    obtain ⟨key, hkey⟩ := hk' p hp
    obtain ⟨x, _, e, _⟩ := Maps.keyOf_str Tryz.underlying9 hkey
    exact ⟨x, e⟩
  exact perm_strKeys hap hstr (rising_sortN L).nodup fun x => by
    rw [mem_sortN, h2 x, decide_eq_true_eq]
set_option maxHeartbeats 1000000 in
theorem clone_any (s : ByteArray) (hs : s.size ≤ 281474976710656) (w : World) : Calls Tryz.prog 21 #[.string s] w fun e w' => e = .returned (.string s) ∧ Below w.heap.size w w' := by
  have HC := Lib.hid (Tryz.stringslite_Clone s w hs)
  go_enter Tryz.func21, Tryz.ntmps21
  go_wp2_with fail
  refine Calls.mono HC.out ?_
  rintro e w2 ⟨rfl, hb⟩
  have HB2 := Lib.hid hb
  clear hb
  go_wp2_with fail
  go_ret
  exact ⟨rfl, HB2.out⟩
/-- Names in memory of the call's own. -/
def NamesEnd (z : Nat) (L : List Nm) (w' : World) (e : Ending) : Prop := ∃ v, e = .returned v ∧ w'.ownsRow z 9 1 v L.length (L.map bs) ∧ (L = [] → v = .slice none 0 0)
def ClR (L : List Nm) (w : World) (v : Value) (vi : Value) (wr : World) : Prop :=
  ∃ j : Nat, j ≤ L.length ∧ vi = .int .i64 j ∧ wr.ownsRow w.heap.size 9 1 v L.length (L.map bs) ∧ Below w.heap.size w wr
set_option maxHeartbeats 8000000 in
set_option maxRecDepth 100000 in
theorem names_any (f : Flt) (a : Option Addr) (c : Nat) (b : Option Addr) (d : Nat) (w : World) (hF : FltAt w (Old w.heap.size) f a b) (h2 : (nms f).length ≤ 2000000) (h40 : ∀ x ∈ nms f, x.length ≤ 281474976710656) :
    Calls Tryz.prog 9 #[.agg #[.int .i64 f.kind, bs f.name, bs f.op, .slice a f.vals.length c, .slice b f.parts.length d]] w fun e w' => NamesEnd w.heap.size (sortN (nms f)) w' e ∧ Below w.heap.size w w' := by
  have CN := Lib.hid (fun W h1 => in_all (sz f) f (Nat.le_refl _) a c b d W h1 h2)
  obtain ⟨sn, en, hsn⟩ := bs_bytes f.name
  obtain ⟨so, eo, hso⟩ := bs_bytes f.op
  rw [en, eo] at CN ⊢
  obtain ⟨k, hk⟩ : ∃ x, x = f.kind := ⟨_, rfl⟩
  obtain ⟨nv, hnv⟩ : ∃ x, x = f.vals.length := ⟨_, rfl⟩
  obtain ⟨np, hnp⟩ : ∃ x, x = f.parts.length := ⟨_, rfl⟩
  rw [← hk, ← hnv, ← hnp] at CN ⊢
  have HF := Lib.hid hF
  obtain ⟨L, hL⟩ : ∃ x, x = sortN (nms f) := ⟨_, rfl⟩
  have HL := Lib.hid hL
  have H40 := Lib.hid (show ∀ x ∈ L, x.length ≤ 281474976710656 by intro x hx; rw [hL, mem_sortN] at hx; exact h40 x hx)
  have HLS := Lib.hid (show L.length ≤ 2000000 by rw [hL]; exact Nat.le_trans (length_sortN _) h2)
  rw [← hL]
  clear hF h2 h40 hk hnv hnp hL en eo hsn hso
  obtain ⟨w1, hw1⟩ : ∃ v, v = w.alloc (.cells #[.int .i64 k, .string sn, .string so, .slice a nv c, .slice b np d] 27) := ⟨_, rfl⟩
  have Y1 := Lib.hid (show Box w1 w.heap.size (.int .i64 k) (.string sn) (.string so) (.slice a nv c) (.slice b np d) by rw [hw1]; exact Box.new ..)
  have HB := Lib.hid (show Below w.heap.size w w1 by rw [hw1]; exact (Below.refl _ _).alloc (Nat.le_refl _) _)
  have HW := Lib.hid hw1
  clear hw1
  go_enter Tryz.func9, Tryz.ntmps9
  go_wp2_with fail
  rw [← HW.out]
  refine Calls.mono (CN.out _ ((HF.out.later HB.out).wide HB.out.size)) ?_
  rintro e w2 ⟨⟨g, rfl, hg, hset⟩, hb⟩
  have HB2 := Lib.hid (HB.out.trans (hb.mono HB.out.size))
  obtain ⟨D, hown, hD⟩ := hset
  have HOW := Lib.hid hown
  have HPE := Lib.hid (HL.out ▸ set_keys hown hD)
  have HSI := Lib.hid (show Maps.size D = L.length by rw [HL.out]; exact set_size hown hD)
  clear hb hg hD hown
  go_wp2_with fail
  refine Calls.mono (callsIn_wide.1 (Tryz.maps_Keys_19 (some g) w2)) ?_
  rintro e w3 ⟨rfl, rfl⟩
  have HSO := Lib.hid (callsIn_wide.1 (Tryz.slices_Sorted_keys_18_19 g _ D unitElem w2 HOW.out (by rw [HSI.out]; have := HLS.out; unfold maxLen; omega) (by rw [HSI.out]; have := HLS.out; omega)))
  go_wp2_with fail
  refine Calls.mono HSO.out ?_
  rintro e w4 ⟨v, ss, rfl, hS, hrow, hnil, hb⟩
  have HB3 := Lib.hid ((HB2.out.alloc HB2.out.size _).trans (hb.mono (by have := HB2.out.size; simp; omega)))
  have hms : ss.mergeSort (fun x y => decide (x ≤ y)) = L := by
    have hp : ss.Perm L := hS.trans HPE.out.symm
    have hr : Rising L := by rw [HL.out]; exact rising_sortN _
    exact rising_ext (rising_merge (hp.nodup_iff.2 hr.nodup)) hr fun x => by rw [(List.mergeSort_perm ss leB).mem_iff, hp.mem_iff]
  have hle : ss.length = L.length := (hS.trans HPE.out.symm).length_eq
  rw [hms, hle] at hrow
  have HNI := Lib.hid (show L = [] → v = .slice none 0 0 by intro h; rw [h] at hle; exact hnil.2 (List.eq_nil_of_length_eq_zero hle))
  have HRO := Lib.hid (row_wide hrow (Nat.le_refl _))
  clear hrow hms hle hnil hS hb HSO
  have HRW := Lib.hid (row_wide HRO.out (show w.heap.size ≤ (w2.alloc (.cells #[.map (some g)] 53)).heap.size by have := HB2.out.size; simp; omega))
  clear HRO HPE HSI HOW
  obtain ⟨n, hn⟩ : ∃ n, n = L.length := ⟨_, rfl⟩
  have HN := Lib.hid hn
  have hbig : n ≤ 2000000 := by have := HLS.out; omega
  by_cases h0 : L = []
  · obtain rfl := HNI.out h0
    have HF0 := Lib.hid h0
    clear h0 hn
    go_wp2_with fail
    refine wp_loop_rounds 1 ?_
    rw [rounds_succ]
    go_wp2
    go_ret
    exact ⟨⟨_, rfl, HRW.out, fun _ => rfl⟩, HB3.out⟩
  · have hp : 0 < L.length := List.length_pos_iff.2 h0
    obtain ⟨g2, cap, rfl⟩ : ∃ g2 cap, v = .slice (some ⟨g2, 0, none⟩) L.length cap := by
      rcases HRW.out.2 with ⟨_, h⟩ | ⟨g2, c2, cur, rfl, _⟩
      · omega
      · exact ⟨g2, c2, rfl⟩
    have HF0 := Lib.hid h0
    rw [← hn]
    rw [← hn] at HRW
    clear h0 hn hp HNI
    go_wp2_with fail
    go_loopw [12] (fun vi wr => ClR L w (.slice (some ⟨g2, 0, none⟩) n cap) vi wr) (fun vi _ => n - (intOf vi).toNat)
    case atStart => exact ⟨0, Nat.zero_le _, rfl, by rw [← HN.out]; exact HRW.out, HB3.out⟩
    case round =>
      obtain ⟨j, hk, rfl, hrow, hBB⟩ := hrel
      have HK := Lib.hid hk
      have HBB := Lib.hid hBB
      rw [← HN.out] at hrow
      have HRO := Lib.hid hrow
      clear hk hBB
      by_cases hlt : j < n
      · have hlz : (j : Int) < (n : Int) := by omega
        have hku : j < L.length := by rw [← HN.out]; exact hlt
        obtain ⟨U, hU⟩ : ∃ V, V = L[j] := ⟨_, rfl⟩
        have HUK := Lib.hid (show L[j]? = some U by rw [hU]; exact List.getElem?_eq_getElem hku)
        obtain ⟨s, q1, f1⟩ := bs_bytes U
        have hc := hrow.cellAt j (by omega)
        rw [List.getElem?_map, HUK.out, Option.map_some, q1] at hc
        have HQ1 := Lib.hid q1
        have CC := Lib.hid (fun W => clone_any s (by rw [← size_list, f1]; exact H40.out U (List.mem_of_getElem? HUK.out)) W)
        clear hU q1 f1 hrow
        go_wp2_with fail
        refine Calls.mono (CC.out _) ?_
        rintro e w6 ⟨rfl, hb⟩
        have HB6 := Lib.hid (HBB.out.trans (hb.mono HBB.out.size))
        have hrow6 := rowKeep HRO.out (V := w6) (fun g hg => hb.block g (rowLt HRO.out hg).2)
        have hc6 := hrow6.cellAt j (by omega)
        rw [List.getElem?_map, HUK.out, Option.map_some, HQ1.out] at hc6
        have hf6 := hrow6.frozenAt j
        have HST := Lib.hid (hrow6.stored j (.string s))
        have HZ := Lib.hid (rowLt hrow6 (g := g2) rfl).1
        clear hb hrow6 hc
        go_wp2_with fail
        go_roundw
        case rel =>
          refine ⟨j + 1, by have := HN.out; omega, by go_num, ?_, HB6.out.setCell (by exact HZ.out) _⟩
          have h := HST.out.1
          rw [← HN.out]
          have e : (L.map bs).set j (.string s) = L.map bs := by
            apply List.ext_getElem?
            intro i
            rw [List.getElem?_set]
            split
            · rename_i hij
              subst hij
              rw [List.getElem?_map, HUK.out, Option.map_some, HQ1.out, if_pos (by simpa using hku)]
            · rfl
          rw [e] at h
          exact h
        case measure => simp [intOf]; omega
      · have hlz : ¬ (j : Int) < (n : Int) := by omega
        have HRN := Lib.hid hrow
        rw [HN.out] at HRN
        have HRE := Lib.hid (show wr.ownsRow w.heap.size 9 1 (.slice (some ⟨g2, 0, none⟩) n cap) L.length (L.map bs) by rw [HN.out]; exact HRN.out)
        clear hrow
        go_wp2_with fail
        go_ret
        exact ⟨⟨_, rfl, HRE.out, fun h => absurd h HF0.out⟩, HBB.out⟩
end Go.Proofs.YtmfkpoojfpepaaaGreatDoor.Ck
/-
  Contract of the statements' up: the document's example holds. Memory that was there is left as it was.
-/
namespace Go.Proofs.YtmfkpoojfpepaaaGreatDoor.Ck
open Go.RowKit Go.Maps Go.Proofs.YtmfkpoojfpepaaaGreatDoor.Fl Go.Proofs.YtmfkpoojfpepaaaGreatDoor.Tk
set_option linter.unusedVariables false
set_option linter.unusedSimpArgs false

def upG : Flt := .mk 4 [97] [61] [⟨[], true, 0, [120]⟩] []
def upV : Att := ⟨[97], false, 4, []⟩
theorem up_chk1 : chkN [[97]] [false] upG = 4 := by kernel_rfl
theorem up_chk2 : chkN [[97]] [true] upG = 0 := by kernel_rfl
theorem up_fit : fitN [[97]] [false] [upV] = 0 := by kernel_rfl
theorem up_len : (sortN (nms upG)).length = 1 := by kernel_rfl
theorem up_nms : nms upG = [[97]] := by kernel_rfl
theorem errV4 : errV 4 = .iface 44 (.int .i64 4) := rfl
theorem errV0 : errV 0 = .nilIface := rfl
theorem eql_code (n : Int) (w : World) : (binOp .eql 34 (.iface 44 (.int .i64 n)) (.iface 44 (.int .i64 n))).run Tryz.prog w = .ok (.bool (n == n)) w := by kernel_rfl
theorem sch_one {W : World} {g g2 : Nat} {x : Nm} {y : Bool} (hx : x.length ≤ 100) (h1 : W.cell? ⟨g, 0, none⟩ = some (bs x)) (h2 : W.cell? ⟨g2, 0, none⟩ = some (.bool y)) : SchAt W [x] [y] (some ⟨g, 0, none⟩) (some ⟨g2, 0, none⟩) := by
  refine ⟨by simp, ⟨by simp [maxLen], by intro s hs; simp at hs; subst hs; unfold maxLen; omega, fun _ => ⟨g, 0, rfl, World.block_lt_of_cell? W ⟨g, 0, none⟩ h1, fun k hk => ?_⟩⟩, ⟨by simp [maxLen], fun _ => ⟨g2, 0, rfl, World.block_lt_of_cell? W ⟨g2, 0, none⟩ h2, fun k hk => ?_⟩⟩⟩
  · obtain rfl : k = 0 := by simpa using hk
    simpa using h1
  · obtain rfl : k = 0 := by simpa using hk
    simpa using h2
set_option maxHeartbeats 8000000 in
set_option maxRecDepth 100000 in
theorem up_any (w : World) (hE : LaidE w) : Calls Tryz.prog 6 #[] w fun e w' => e = .returned (.bool true) ∧ Below w.heap.size w w' := by
  obtain ⟨z, hz⟩ : ∃ z, z = w.heap.size := ⟨_, rfl⟩
  obtain ⟨w1, hw1⟩ : ∃ v, v = ((((w.alloc (.cells #[.string ⟨#[]⟩, .bool true, .int .i64 0, .string ⟨#[120]⟩] 46)).alloc (.cells #[.int .i64 4, .string ⟨#[97]⟩, .string ⟨#[61]⟩, .slice (some ⟨w.heap.size, 0, none⟩) 1 1, .slice none 0 0] 27)).alloc (.cells #[.string ⟨#[97]⟩] 9)).alloc (.cells #[.bool false] 4)).alloc (.cells #[.slice (some ⟨w.heap.size + 2, 0, none⟩) 1 1, .slice (some ⟨w.heap.size + 3, 0, none⟩) 1 1] 37) := ⟨_, rfl⟩
  have HZ1 := Lib.hid (show w1.heap.size = w.heap.size + 5 by rw [hw1]; simp)
  have HB := Lib.hid (show Below w.heap.size w w1 by rw [hw1]; exact (((((Below.refl _ _).alloc (Nat.le_refl _) _).alloc (by simp) _).alloc (by simp; omega) _).alloc (by simp; omega) _).alloc (by simp; omega) _)
  have Y1 := Lib.hid (show Box w1 (w.heap.size + 1) (.int .i64 4) (.string ⟨#[97]⟩) (.string ⟨#[61]⟩) (.slice (some ⟨w.heap.size, 0, none⟩) 1 1) (.slice none 0 0) by rw [hw1]; refine ⟨?_, ?_, ?_, ?_, ?_⟩ <;> simp [go_sem])
  have X1 := Lib.hid (show Two w1 (w.heap.size + 4) (.slice (some ⟨w.heap.size + 2, 0, none⟩) 1 1) (.slice (some ⟨w.heap.size + 3, 0, none⟩) 1 1) by rw [hw1]; refine ⟨?_, ?_⟩ <;> simp [go_sem])
  have HA := Lib.hid (show AttsAt w1 (Old w1.heap.size) (some ⟨w.heap.size, 0, none⟩) [⟨[], true, 0, [120]⟩] by
    refine atts_one ⟨by simp [maxLen], by simp [maxLen], by simp, by simp⟩ ?_ ?_ ?_ ?_ <;> rw [hw1] <;> simp [go_sem, bs])
  have HF := Lib.hid (show FltAt w1 (Old w1.heap.size) upG (some ⟨w.heap.size, 0, none⟩) none from FltAt.mk' ⟨by simp [upG, Flt.name, maxLen], by simp [upG, Flt.op, maxLen], by simp [upG, Flt.kind], by simp [upG, Flt.kind], by simp [upG, Flt.parts]⟩ HA.out (by simp only [upG, Flt.parts]; rw [PartsAt]; trivial))
  have HS := Lib.hid (show SchAt w1 [[97]] [false] (some ⟨w.heap.size + 2, 0, none⟩) (some ⟨w.heap.size + 3, 0, none⟩) by
    refine sch_one (by simp) ?_ ?_ <;> rw [hw1] <;> simp [go_sem, bs])
  have HE := Lib.hid hE
  have e1 := eqN
  have e2 : ∀ w, (binOp .eql 34 (.iface 44 (.int .i64 4)) (.iface 44 (.int .i64 4))).run Tryz.prog w = .ok (.bool true) w := fun w => eql_code 4 w
  have C1 := Lib.hid (check_any [[97]] [false] (some ⟨w.heap.size + 2, 0, none⟩) 1 (some ⟨w.heap.size + 3, 0, none⟩) 1 upG (some ⟨w.heap.size, 0, none⟩) 1 none 0 w1 (hE.later HB.out) HS.out HF.out)
  rw [up_chk1, errV4] at C1
  have HW1 := Lib.hid hw1
  clear hw1 hE hz
  go_enter Tryz.func6, Tryz.ntmps6
  go_wp2_with fail
  rw [← HW1.out]
  refine Calls.mono C1.out ?_
  rintro e w2 ⟨rfl, hb⟩
  have B2 := Lib.hid (HB.out.trans (hb.mono HB.out.size))
  have X2 := Lib.hid (X1.out.later hb)
  have Y2 := Lib.hid (Y1.out.later hb)
  have F2 := Lib.hid (fit_flt HF.out hb)
  have S2 := Lib.hid (HS.out.fit hb)
  clear hb
  obtain ⟨w3, hw3⟩ : ∃ v, v = (w2.alloc (.cells #[.string ⟨#[97]⟩] 9)).alloc (.cells #[.bool true] 4) := ⟨_, rfl⟩
  have B23 := Lib.hid (show Below w2.heap.size w2 w3 by rw [hw3]; exact ((Below.refl _ _).alloc (Nat.le_refl _) _).alloc (by simp) _)
  have S3 := Lib.hid (show SchAt w3 [[97]] [true] (some ⟨w2.heap.size, 0, none⟩) (some ⟨w2.heap.size + 1, 0, none⟩) by
    refine sch_one (by simp) ?_ ?_ <;> rw [hw3] <;> simp [go_sem, bs])
  have B3 := Lib.hid (B2.out.trans (B23.out.mono B2.out.size))
  have X3 := Lib.hid (X2.out.later B23.out)
  have Y3 := Lib.hid (Y2.out.later B23.out)
  have F3 := Lib.hid (fit_flt F2.out B23.out)
  have S3' := Lib.hid (S2.out.fit B23.out)
  have C2 := Lib.hid (check_any [[97]] [true] (some ⟨w2.heap.size, 0, none⟩) 1 (some ⟨w2.heap.size + 1, 0, none⟩) 1 upG (some ⟨w.heap.size, 0, none⟩) 1 none 0 w3 (HE.out.later B3.out) S3.out F3.out)
  rw [up_chk2, errV0] at C2
  have HW3 := Lib.hid hw3
  obtain ⟨p0, p1, p2, p3, p4⟩ := Y3.out
  rw [hw3] at p0 p1 p2 p3 p4
  clear hw3
  go_wp2_with fail
  rw [← HW3.out]
  refine Calls.mono C2.out ?_
  rintro e w4 ⟨rfl, hb⟩
  have B4 := Lib.hid (B3.out.trans (hb.mono B3.out.size))
  have X4 := Lib.hid (X3.out.later hb)
  have Y4 := Lib.hid (Y3.out.later hb)
  have F4 := Lib.hid (fit_flt F3.out hb)
  have S4 := Lib.hid (S3'.out.fit hb)
  clear hb p0 p1 p2 p3 p4
  obtain ⟨w5, hw5⟩ : ∃ v, v = w4.alloc (.cells #[.string ⟨#[97]⟩, .bool false, .int .i64 4, .string ⟨#[]⟩] 46) := ⟨_, rfl⟩
  have B45 := Lib.hid (show Below w4.heap.size w4 w5 by rw [hw5]; exact (Below.refl _ _).alloc (Nat.le_refl _) _)
  have A5 := Lib.hid (show AttsAt w5 (Old w5.heap.size) (some ⟨w4.heap.size, 0, none⟩) [upV] by
    refine atts_one ⟨by simp [upV, maxLen], by simp [upV, maxLen], by simp [upV], by simp [upV]⟩ ?_ ?_ ?_ ?_ <;> rw [hw5] <;> simp [go_sem, bs, upV])
  have B5 := Lib.hid (B4.out.trans (B45.out.mono B4.out.size))
  have Y5 := Lib.hid (Y4.out.later B45.out)
  have F5 := Lib.hid (fit_flt F4.out B45.out)
  have S5 := Lib.hid (S4.out.fit B45.out)
  have C3 := Lib.hid (fits_any [[97]] [false] (some ⟨w.heap.size + 2, 0, none⟩) 1 (some ⟨w.heap.size + 3, 0, none⟩) 1 [upV] (some ⟨w4.heap.size, 0, none⟩) 1 w5 (HE.out.later B5.out) S5.out A5.out)
  rw [up_fit, errV0] at C3
  have HW5 := Lib.hid hw5
  obtain ⟨q0, q1⟩ := X4.out
  clear hw5
  go_wp2_with fail
  rw [← HW5.out]
  refine Calls.mono C3.out ?_
  rintro e w6 ⟨rfl, hb⟩
  have B6 := Lib.hid (B5.out.trans (hb.mono B5.out.size))
  have Y6 := Lib.hid (Y5.out.later hb)
  have F6 := Lib.hid (fit_flt F5.out hb)
  have C4 := Lib.hid (names_any upG (some ⟨w.heap.size, 0, none⟩) 1 none 0 w6 F6.out (by rw [up_nms]; simp) (by rw [up_nms]; simp))
  clear hb q0 q1
  obtain ⟨p0, p1, p2, p3, p4⟩ := Y6.out
  go_wp2_with fail
  refine Calls.mono C4.out ?_
  rintro e w7 ⟨⟨v, rfl, hrow, _⟩, hb⟩
  have B7 := Lib.hid (B6.out.trans (hb.mono B6.out.size))
  rw [up_len] at hrow
  obtain ⟨g2, cap, rfl⟩ : ∃ g2 cap, v = .slice (some ⟨g2, 0, none⟩) 1 cap := by
    rcases hrow.2 with ⟨_, h⟩ | ⟨g2, c2, cur, rfl, _⟩
    · omega
    · exact ⟨g2, c2, rfl⟩
  clear hb hrow
  go_wp2_with fail
  go_ret
  exact ⟨rfl, B7.out⟩
end Go.Proofs.YtmfkpoojfpepaaaGreatDoor.Ck
/-
  Contracts of the statements' small and of the document's Attrs: are names, and attributes, few and short? The world is as it was.
-/
namespace Go.Proofs.YtmfkpoojfpepaaaGreatDoor.Ck
open Go.RowKit Go.Proofs.YtmfkpoojfpepaaaGreatDoor.Fl Go.Proofs.YtmfkpoojfpepaaaGreatDoor.Tk
set_option linter.unusedVariables false
set_option linter.unusedSimpArgs false

def SmEnd (l : List Nm) (t : List Bool) (w w' : World) (e : Ending) : Prop := (∃ r : Bool, e = .returned (.bool r) ∧ (r = true → l.length ≤ 50 ∧ t.length ≤ 60 ∧ ∀ s ∈ l, s.length ≤ 100)) ∧ w = w'
def AnyEnd (w w' : World) (e : Ending) : Prop := (∃ r : Bool, e = .returned (.bool r)) ∧ w = w'
def SmR (l : List Nm) (w : World) (vi : Value) (wr : World) : Prop :=
  ∃ k : Nat, k ≤ l.length ∧ vi = .int .i64 k ∧ Hid (∀ s ∈ l.take k, s.length ≤ 100) ∧ w = wr
set_option maxHeartbeats 1000000 in
set_option maxRecDepth 100000 in
theorem small_any (l : List Nm) (t : List Bool) (a : Option Addr) (c : Nat) (b : Option Addr) (d : Nat) (w : World) (hL : NmsAt w (Old w.heap.size) a l) (hT : BlsAt w (Old w.heap.size) b t) :
    Calls Tryz.prog 8 #[.slice a l.length c, .slice b t.length d] w fun e w' => SmEnd l t w w' e := by
  obtain ⟨n, hn⟩ : ∃ n, n = l.length := ⟨_, rfl⟩
  obtain ⟨m, hm⟩ : ∃ n, n = t.length := ⟨_, rfl⟩
  have HN := Lib.hid hn
  have HM := Lib.hid hm
  have hbig : n ≤ 9223372036854775807 := by have := hL.1; unfold maxLen at this; omega
  have hbig2 : m ≤ 9223372036854775807 := by have := hT.1; unfold maxLen at this; omega
  have HL := Lib.hid hL
  rw [← hn, ← hm]
  clear hn hm hL hT
  go_enter Tryz.func8, Tryz.ntmps8
  go_wp2_with fail
  go_loopw [5] (fun vi wr => SmR l w vi wr) (fun vi _ => n - (intOf vi).toNat)
  case atStart => exact ⟨0, Nat.zero_le _, rfl, Lib.hid (by simp), rfl⟩
  case round =>
    obtain ⟨k, hk, rfl, hall, rfl⟩ := hrel
    have HK := Lib.hid hk
    have HALL := Lib.hid hall.out
    clear hk hall
    by_cases hlt : k < n
    · have hlz : (k : Int) < (n : Int) := by omega
      have hkl : k < l.length := by rw [← HN.out]; exact hlt
      obtain ⟨g, o, hg, hgl, hc⟩ := HL.out.2.2 (by omega)
      have c0 := hc k hkl
      obtain ⟨U, hU⟩ : ∃ V, V = l[k] := ⟨_, rfl⟩
      have HU := Lib.hid (show l[k]? = some U by rw [hU]; exact List.getElem?_eq_getElem hkl)
      rw [← hU] at c0
      obtain ⟨x, e0, hx⟩ := bs_bytes U
      rw [e0] at c0
      subst hg
      have HX := Lib.hid (show x.size = U.length by rw [← size_list, hx])
      clear hc hU hx hgl e0
      by_cases he : 100 < x.size
      · have hez : (100 : Int) < (x.size : Int) := by omega
        go_wp2_with fail
        go_ret
        exact ⟨⟨false, rfl, fun h => by cases h⟩, rfl⟩
      · have hez : ¬ (100 : Int) < (x.size : Int) := by omega
        have HE := Lib.hid (show U.length ≤ 100 by rw [← HX.out]; omega)
        go_wp2_with fail
        go_roundw
        case rel =>
          exact ⟨k + 1, by have := HN.out; omega, by go_num, Lib.hid (by
            rw [List.take_add_one, HU.out]
            intro u hu
            rcases List.mem_append.1 hu with hu | hu
            · exact HALL.out u hu
            · simp at hu
              rw [hu]
              exact HE.out), rfl⟩
        case measure => simp [intOf]; omega
    · have hlz : ¬ (k : Int) < (n : Int) := by omega
      have HF := Lib.hid (show ∀ s ∈ l, s.length ≤ 100 by
        have h := HALL.out
        rw [show k = l.length by have := HN.out; have := HK.out; omega, List.take_length] at h
        exact h)
      by_cases h50 : n ≤ 50
      · have h50z : (n : Int) ≤ 50 := by omega
        by_cases h60 : m ≤ 60
        · have h60z : (m : Int) ≤ 60 := by omega
          go_wp2_with fail
          go_ret
          exact ⟨⟨true, rfl, fun _ => ⟨by have := HN.out; omega, by have := HM.out; omega, HF.out⟩⟩, rfl⟩
        · have h60z : ¬ (m : Int) ≤ 60 := by omega
          go_wp2_with fail
          go_ret
          exact ⟨⟨false, rfl, fun h => by cases h⟩, rfl⟩
      · have h50z : ¬ (n : Int) ≤ 50 := by omega
        go_wp2_with fail
        go_ret
        exact ⟨⟨false, rfl, fun h => by cases h⟩, rfl⟩

def AtR (n : Nat) (w : World) (vi : Value) (wr : World) : Prop := ∃ k : Nat, k ≤ n ∧ vi = .int .i64 k ∧ w = wr
set_option maxHeartbeats 1000000 in
set_option maxRecDepth 100000 in
theorem attrs_any (vs : List Att) (a : Option Addr) (c : Nat) (w : World) (hA : AttsAt w (Old w.heap.size) a vs) :
    Calls Tryz.prog 14 #[.slice a vs.length c] w fun e w' => AnyEnd w w' e := by
  obtain ⟨n, hn⟩ : ∃ n, n = vs.length := ⟨_, rfl⟩
  have HN := Lib.hid hn
  have hbig : n ≤ 9223372036854775807 := by have := hA.1; unfold maxLen at this; omega
  have HA := Lib.hid hA
  rw [← hn]
  clear hn hA
  go_enter Tryz.func14, Tryz.ntmps14
  go_wp2_with fail
  go_loopw [3] (fun vi wr => AtR n w vi wr) (fun vi _ => n - (intOf vi).toNat)
  case atStart => exact ⟨0, Nat.zero_le _, rfl, rfl⟩
  case round =>
    obtain ⟨k, hk, rfl, rfl⟩ := hrel
    by_cases hlt : k < n
    · have hlz : (k : Int) < (n : Int) := by omega
      have hkl : k < vs.length := by rw [← HN.out]; exact hlt
      obtain ⟨g, o, hg, hgl, hc⟩ := HA.out.2.2 (by omega)
      obtain ⟨c0, c1, c2, c3⟩ := hc k hkl
      obtain ⟨x, e0, hx⟩ := bs_bytes vs[k].name
      obtain ⟨y, e3, hy⟩ := bs_bytes vs[k].str
      rw [e0] at c0
      rw [e3] at c3
      subst hg
      clear hc c1 c2 e0 e3 hx hy hgl
      by_cases h1 : 300 < x.size
      · have h1z : (300 : Int) < (x.size : Int) := by omega
        go_wp2_with fail
        go_ret
        exact ⟨⟨false, rfl⟩, rfl⟩
      · have h1z : ¬ (300 : Int) < (x.size : Int) := by omega
        by_cases h2 : 300 < y.size
        · have h2z : (300 : Int) < (y.size : Int) := by omega
          go_wp2_with fail
          go_ret
          exact ⟨⟨false, rfl⟩, rfl⟩
        · have h2z : ¬ (300 : Int) < (y.size : Int) := by omega
          go_wp2_with fail
          go_roundw
          case rel => exact ⟨k + 1, by omega, by go_num, rfl⟩
          case measure => simp [intOf]; omega
    · have hlz : ¬ (k : Int) < (n : Int) := by omega
      go_wp2_with fail
      go_ret
      exact ⟨⟨_, rfl⟩, rfl⟩
end Go.Proofs.YtmfkpoojfpepaaaGreatDoor.Ck
/-
  Contract of the document's answer leaf: may a filter without parts be? Memory that was there is left as it was.
-/
namespace Go.Proofs.YtmfkpoojfpepaaaGreatDoor.Fl
open Go.RowKit Go.Proofs.YtmfkpoojfpepaaaGreatDoor.Tk
set_option linter.unusedVariables false
set_option linter.unusedSimpArgs false

/-- Is it a value, and of that sort? -/
def valT0 (t : Bool) (v : Att) : Bool := valB v && v.text == t
def LfR (p : Att → Bool) (vs : List Att) (w : World) (vi : Value) (wr : World) : Prop :=
  ∃ k : Nat, k ≤ vs.length ∧ vi = .int .i64 k ∧ Hid (∀ v ∈ vs.take k, p v = true) ∧ Below w.heap.size w wr
theorem val_cases (sn : ByteArray) (t t0 : Bool) (n : Int) (ss : ByteArray) (pl : Bool) (hp : plainB ss.data.toList = pl) (V : Att) (h1 : sn.data.toList = V.name) (h2 : t = V.text) (h3 : n = V.num) (h4 : ss.data.toList = V.str) :
    (¬ sn = ⟨#[]⟩ ∧ valT0 t0 V = false) ∨ (sn = ⟨#[]⟩ ∧ t = true ∧ t0 = false ∧ valT0 t0 V = false) ∨ (sn = ⟨#[]⟩ ∧ t = false ∧ t0 = true ∧ valT0 t0 V = false) ∨
    (sn = ⟨#[]⟩ ∧ t = true ∧ t0 = true ∧ ¬ n = 0 ∧ valT0 t0 V = false) ∨ (sn = ⟨#[]⟩ ∧ t = true ∧ t0 = true ∧ n = 0 ∧ pl = false ∧ valT0 t0 V = false) ∨ (sn = ⟨#[]⟩ ∧ t = true ∧ t0 = true ∧ n = 0 ∧ pl = true ∧ valT0 t0 V = true) ∨
    (sn = ⟨#[]⟩ ∧ t = false ∧ t0 = false ∧ ¬ ss = ⟨#[]⟩ ∧ valT0 t0 V = false) ∨ (sn = ⟨#[]⟩ ∧ t = false ∧ t0 = false ∧ ss = ⟨#[]⟩ ∧ valT0 t0 V = true) := by
  have hn : sn = ⟨#[]⟩ ↔ V.name = [] := by rw [← h1]; obtain ⟨⟨l⟩⟩ := sn; simp
  have hs : ss = ⟨#[]⟩ ↔ V.str = [] := by rw [← h4]; obtain ⟨⟨l⟩⟩ := ss; simp
  rw [h4] at hp
  subst h2 h3
  by_cases e1 : V.name = []
  · cases ht : V.text <;> cases t0
    · by_cases e2 : V.str = []
      · exact Or.inr (Or.inr (Or.inr (Or.inr (Or.inr (Or.inr (Or.inr ⟨hn.2 e1, rfl, rfl, hs.2 e2, by simp [valT0, valB, e1, e2, ht]⟩))))))
      · exact Or.inr (Or.inr (Or.inr (Or.inr (Or.inr (Or.inr (Or.inl ⟨hn.2 e1, rfl, rfl, fun h => e2 (hs.1 h), by simp [valT0, valB, e1, e2, ht]⟩))))))
    · exact Or.inr (Or.inr (Or.inl ⟨hn.2 e1, rfl, rfl, by simp [valT0, ht]⟩))
    · exact Or.inr (Or.inl ⟨hn.2 e1, rfl, rfl, by simp [valT0, ht]⟩)
    · by_cases e2 : V.num = 0
      · cases hq : pl
        · exact Or.inr (Or.inr (Or.inr (Or.inr (Or.inl ⟨hn.2 e1, rfl, rfl, e2, rfl, by rw [hq] at hp; simp [valT0, valB, e1, e2, ht, hp]⟩))))
        · exact Or.inr (Or.inr (Or.inr (Or.inr (Or.inr (Or.inl ⟨hn.2 e1, rfl, rfl, e2, rfl, by rw [hq] at hp; simp [valT0, valB, e1, e2, ht, hp]⟩)))))
      · exact Or.inr (Or.inr (Or.inr (Or.inl ⟨hn.2 e1, rfl, rfl, e2, by simp [valT0, valB, e1, e2, ht]⟩)))
  · exact Or.inl ⟨fun h => e1 (hn.1 h), by simp [valT0, valB, e1]⟩
/-- What is asked of a filter without parts, behind the values. -/
def tailB (k : Int) (o : List UInt8) (vs : List Att) : Bool := if k = 6 then o == [] else if k = 5 then decide (vs.length = 1) && firstText vs && o == [] else decide (vs.length = 1) && opB o
theorem leafB_eq {k : Int} (n o : List UInt8) (v : Att) (r : List Att) (lp : Nat) : (leafB k n o (v :: r) && decide (lp = 0)) = (nameB n && decide (lp = 0) && decide ((v :: r).length ≤ 20) && (v :: r).all (valT0 v.text) && tailB k o (v :: r)) := by
  have e1 : decide ((v :: r).length ≤ 20) = decide (r.length < 20) := decide_eq_decide.2 (by simp only [List.length_cons]; omega)
  have e2 : (v :: r).all (valT0 v.text) = (valB v && r.all fun u => valB u && u.text == v.text) := by
    simp only [List.all_cons, valT0, beq_self_eq_true, Bool.and_true]
    rfl
  have e3 : decide ((v :: r).length = 1) = r.isEmpty := by cases r <;> simp
  rw [leafB, tailB, e1, e2, e3, firstText]
  by_cases h6 : k = 6
  · simp only [h6, if_true]
    cases nameB n <;> cases decide (lp = 0) <;> cases decide (r.length < 20) <;> cases valB v <;> cases (r.all fun u => valB u && u.text == v.text) <;> simp
  · by_cases h5 : k = 5
    · simp only [h5, if_true]
      cases nameB n <;> cases decide (lp = 0) <;> cases decide (r.length < 20) <;> cases valB v <;> cases (r.all fun u => valB u && u.text == v.text) <;> simp
    · rw [if_neg h6, if_neg h5]
      cases nameB n <;> cases decide (lp = 0) <;> cases decide (r.length < 20) <;> cases valB v <;> cases (r.all fun u => valB u && u.text == v.text) <;> simp
theorem beq_bytes' (s r : ByteArray) : (s.toList == r.toList) = decide (s = r) := by
  by_cases h : s = r
  · rw [decide_eq_true h, h]; simp
  · rw [decide_eq_false h, beq_eq_false_iff_ne]
    intro e
    rw [Lib.toList_data, Lib.toList_data] at e
    exact h (by obtain ⟨⟨a⟩⟩ := s; obtain ⟨⟨b⟩⟩ := r; simpa using e)
theorem ne_bytes' {s : ByteArray} (h : ¬ s = ⟨#[]⟩) : ¬ s.toList = [] := by
  have := beq_bytes' s ⟨#[]⟩
  rw [decide_eq_false h, beq_eq_false_iff_ne, Lib.toList_data ⟨#[]⟩] at this
  exact this
set_option maxHeartbeats 8000000 in
set_option maxRecDepth 100000 in
theorem refLeaf_any (k : Int) (sn so : ByteArray) (vs : List Att) (a : Option Addr) (c : Nat) (lp : Nat) (b : Option Addr) (d : Nat) (w : World) (hA : AttsAt w (Old w.heap.size) a vs) :
    Calls Tryz.prog 59 #[.agg #[.int .i64 k, .string sn, .string so, .slice a vs.length c, .slice b lp d]] w fun e w' => e = .returned (.bool (leafB k sn.data.toList so.data.toList vs && decide (lp = 0))) ∧ Below w.heap.size w w' := by
  have HA := Lib.hid hA
  have CN := Lib.hid (fun W => refName_any sn W)
  have CO := Lib.hid (fun W => refOp_any so W)
  obtain ⟨nm, hnm⟩ : ∃ r, nameB sn.data.toList = r := ⟨_, rfl⟩
  obtain ⟨op, hop⟩ : ∃ r, opB so.data.toList = r := ⟨_, rfl⟩
  rw [hnm] at CN
  rw [hop] at CO
  have HNM := Lib.hid hnm
  have HOP := Lib.hid hop
  obtain ⟨res, hres⟩ : ∃ x, x = (leafB k sn.data.toList so.data.toList vs && decide (lp = 0)) := ⟨_, rfl⟩
  rw [← hres]
  have HR := Lib.hid hres
  have hlen : vs.length ≤ 9223372036854775807 := by have := hA.1; unfold maxLen at this; omega
  obtain ⟨n, hn⟩ : ∃ n, n = vs.length := ⟨_, rfl⟩
  have HN := Lib.hid hn
  rw [← hn] at hlen ⊢
  obtain ⟨w1, hw1⟩ : ∃ v, v = w.alloc (.cells #[.int .i64 k, .string sn, .string so, .slice a n c, .slice b lp d] 27) := ⟨_, rfl⟩
  have X1 := Lib.hid (show Box w1 w.heap.size (.int .i64 k) (.string sn) (.string so) (.slice a n c) (.slice b lp d) by rw [hw1]; exact Box.new ..)
  have HB := Lib.hid (show Below w.heap.size w w1 by rw [hw1]; exact (Below.refl _ _).alloc (Nat.le_refl _) _)
  have HW := Lib.hid hw1
  clear hw1 hn hres hnm hop hA
  cases nm
  case false =>
    have HF := Lib.hid (show res = false by
      rw [HR.out]
      cases vs with
      | nil => rfl
      | cons v r => rw [leafB_eq, HNM.out]; rfl)
    go_enter Tryz.func59, Tryz.ntmps59
    go_wp2_with (go_at_call 45; rw [← HW.out]; refine Calls.mono (CN.out _) ?_; rintro e w2 ⟨rfl, hb⟩; have HB2 := Lib.hid (HB.out.trans (hb.mono HB.out.size)); have X2 := Lib.hid (X1.out.later hb); obtain ⟨c0, c1, c2, c3, c4⟩ := X2.out; clear hb)
    go_ret
    exact ⟨by rw [HF.out]; rfl, HB2.out⟩
  by_cases h1 : 0 < lp
  case pos =>
    have h1z : (0 : Int) < (lp : Int) := by omega
    have HF := Lib.hid (show res = false by rw [HR.out, decide_eq_false (show ¬ lp = 0 by omega), Bool.and_false])
    go_enter Tryz.func59, Tryz.ntmps59
    go_wp2_with (go_at_call 45; rw [← HW.out]; refine Calls.mono (CN.out _) ?_; rintro e w2 ⟨rfl, hb⟩; have HB2 := Lib.hid (HB.out.trans (hb.mono HB.out.size)); have X2 := Lib.hid (X1.out.later hb); obtain ⟨c0, c1, c2, c3, c4⟩ := X2.out; clear hb)
    go_ret
    exact ⟨by rw [HF.out]; rfl, HB2.out⟩
  obtain rfl : lp = 0 := by omega
  by_cases h2 : n = 0
  case pos =>
    have HF := Lib.hid (show res = false by
      rw [HR.out, List.eq_nil_of_length_eq_zero (HN.out.symm.trans h2)]; rfl)
    have h2z : (n : Int) = 0 := by omega
    clear HR HN
    subst h2
    go_enter Tryz.func59, Tryz.ntmps59
    go_wp2_with (go_at_call 45; rw [← HW.out]; refine Calls.mono (CN.out _) ?_; rintro e w2 ⟨rfl, hb⟩; have HB2 := Lib.hid (HB.out.trans (hb.mono HB.out.size)); have X2 := Lib.hid (X1.out.later hb); obtain ⟨c0, c1, c2, c3, c4⟩ := X2.out; clear hb)
    go_ret
    exact ⟨by rw [HF.out]; rfl, HB2.out⟩
  have h2z : ¬ (n : Int) = 0 := by omega
  have h2b : ((n : Int) == 0) = false := by rw [beq_eq_false_iff_ne]; exact h2z
  obtain ⟨v0, r0, hv0⟩ : ∃ v r, vs = v :: r := by
    cases h : vs with
    | nil => rw [h] at HN; exact absurd HN.out h2
    | cons v r => exact ⟨v, r, rfl⟩
  have HRE := Lib.hid (show res = (decide (n ≤ 20) && vs.all (valT0 v0.text) && tailB k so.data.toList vs) by
    rw [HR.out, hv0, leafB_eq, HNM.out, HN.out, hv0]; simp)
  by_cases h3 : 20 < n
  case pos =>
    have h3z : (20 : Int) < (n : Int) := by omega
    have HF := Lib.hid (show res = false by rw [HRE.out, decide_eq_false (show ¬ n ≤ 20 by omega)]; rfl)
    go_enter Tryz.func59, Tryz.ntmps59
    go_wp2_with (go_at_call 45; rw [← HW.out]; refine Calls.mono (CN.out _) ?_; rintro e w2 ⟨rfl, hb⟩; have HB2 := Lib.hid (HB.out.trans (hb.mono HB.out.size)); have X2 := Lib.hid (X1.out.later hb); obtain ⟨c0, c1, c2, c3, c4⟩ := X2.out; clear hb)
    go_ret
    exact ⟨by rw [HF.out]; rfl, HB2.out⟩
  have h3z : ¬ (20 : Int) < (n : Int) := by omega
  have h3b : decide ((20 : Int) < (n : Int)) = false := decide_eq_false h3z
  have HRF := Lib.hid (show res = (vs.all (valT0 v0.text) && tailB k so.data.toList vs) by rw [HRE.out, decide_eq_true (show n ≤ 20 by omega)]; rfl)
  have HV0 := Lib.hid (show vs[0]? = some v0 by rw [hv0]; rfl)
  have HFT := Lib.hid (show firstText vs = v0.text by rw [hv0]; rfl)
  obtain ⟨t0, ht0⟩ : ∃ x, x = v0.text := ⟨_, rfl⟩
  rw [← ht0] at HRF HFT
  have HT0 := Lib.hid ht0
  clear HRE HR hv0 ht0
  go_enter Tryz.func59, Tryz.ntmps59
  go_wp2_with (go_at_call 45; rw [← HW.out]; refine Calls.mono (CN.out _) ?_; rintro e w2 ⟨rfl, hb⟩; have HB2 := Lib.hid (HB.out.trans (hb.mono HB.out.size)); have X2 := Lib.hid (X1.out.later hb); obtain ⟨c0, c1, c2, c3, c4⟩ := X2.out; clear hb)
  clear c0 c1 c2 c3 c4
  go_loopw [4] (fun vi wr => LfR (valT0 t0) vs w2 vi wr) (fun vi _ => n - (intOf vi).toNat)
  case atStart => exact ⟨0, Nat.zero_le _, rfl, Lib.hid (by simp), Below.refl _ _⟩
  case round =>
    obtain ⟨j, hk, rfl, hall, hBB⟩ := hrel
    have HK := Lib.hid hk
    have HBB := Lib.hid hBB
    have HBW := Lib.hid (HB2.out.trans (hBB.mono HB2.out.size))
    have X3 := Lib.hid (X2.out.later hBB)
    obtain ⟨p0, p1, p2, p3, p4⟩ := X3.out
    clear hk hBB
    obtain ⟨g, o, hg, hgl, hc⟩ := (HA.out.later HBW.out).2.2 (by have := HN.out; omega)
    obtain ⟨z0, z1, z2, z3⟩ := hc 0 (by have := HN.out; omega)
    have h0v : vs[0]'(by have := HN.out; omega) = v0 := by
      have := HV0.out
      rw [List.getElem?_eq_getElem (by have := HN.out; omega)] at this
      exact Option.some.inj this
    rw [h0v, ← HT0.out] at z1
    simp only [Nat.zero_mul, Nat.add_zero] at z1
    have HGL := Lib.hid (show g < wr.heap.size from Nat.lt_of_lt_of_le hgl HBW.out.size)
    have hgw : g < wr.heap.size := HGL.out
    have hbw : w.heap.size < wr.heap.size := X3.out.lt
    subst hg
    clear z0 z2 z3 h0v hgl
    by_cases hlt : j < n
    · have hlz : (j : Int) < (n : Int) := by omega
      have hku : j < vs.length := by rw [← HN.out]; exact hlt
      obtain ⟨e0, e1, e2, e3⟩ := hc j hku
      obtain ⟨U, hU⟩ : ∃ V, V = vs[j] := ⟨_, rfl⟩
      rw [← hU] at e0 e1 e2 e3
      obtain ⟨s1, q1, f1⟩ := bs_bytes U.name
      obtain ⟨t1, q2, f2⟩ := bs_bytes U.str
      obtain ⟨x1, hx1⟩ : ∃ x, x = U.text := ⟨_, rfl⟩
      obtain ⟨y1, hy1⟩ : ∃ x, x = U.num := ⟨_, rfl⟩
      have htl : t1.size ≤ 9223372036854775807 := by
        have h9 := (HA.out.2.1 U (by rw [hU]; exact List.getElem_mem hku)).2.1
        rw [← f2, ← Lib.size_eq] at h9
        unfold maxLen at h9
        omega
      have CP := Lib.hid (fun W => refPlain_any t1 htl W)
      obtain ⟨pl, hpl⟩ : ∃ x, plainB t1.data.toList = x := ⟨_, rfl⟩
      have HVC := val_cases s1 x1 t0 y1 t1 pl hpl U f1 hx1 hy1 f2
      rw [hpl] at CP
      rw [q1] at e0
      rw [← hx1] at e1
      rw [← hy1] at e2
      rw [q2] at e3
      have HUK := Lib.hid (show vs[j]? = some U by rw [hU]; exact List.getElem?_eq_getElem hku)
      clear hc hU q1 q2 f1 f2 hx1 hy1 hpl
      rcases HVC with ⟨hz, hv⟩ | ⟨rfl, rfl, rfl, hv⟩ | ⟨rfl, rfl, rfl, hv⟩ | ⟨rfl, rfl, rfl, hz, hv⟩ | ⟨rfl, rfl, rfl, rfl, rfl, hv⟩ | ⟨rfl, rfl, rfl, rfl, rfl, hv⟩ | ⟨rfl, rfl, rfl, hz, hv⟩ | ⟨rfl, rfl, rfl, rfl, hv⟩
      · have HF := Lib.hid (show res = false by rw [HRF.out, show vs.all (valT0 _) = false from by rw [List.all_eq_false]; exact ⟨U, List.mem_of_getElem? HUK.out, by simp [hv]⟩]; rfl)
        have hzl := ne_bytes' hz
        have hzb : (s1.toList == []) = false := by rw [beq_eq_false_iff_ne]; exact hzl
        have hzd : decide (s1.toList = []) = false := decide_eq_false hzl
        clear hv
        go_wp2_with (go_at_call 36; refine Calls.mono (CP.out _) ?_; rintro e w3 ⟨rfl, rfl⟩)
        go_big_quiet (fail)
        go_wp2_with fail
        go_ret
        exact ⟨by rw [HF.out]; rfl, below_drewN (HBW.out.alloc HBW.out.size _) _⟩
      · have HF := Lib.hid (show res = false by rw [HRF.out, show vs.all (valT0 _) = false from by rw [List.all_eq_false]; exact ⟨U, List.mem_of_getElem? HUK.out, by simp [hv]⟩]; rfl)
        clear hv
        go_wp2_with (go_at_call 36; refine Calls.mono (CP.out _) ?_; rintro e w3 ⟨rfl, rfl⟩)
        go_big_quiet (fail)
        go_wp2_with fail
        go_ret
        exact ⟨by rw [HF.out]; rfl, below_drewN (HBW.out.alloc HBW.out.size _) _⟩
      · have HF := Lib.hid (show res = false by rw [HRF.out, show vs.all (valT0 _) = false from by rw [List.all_eq_false]; exact ⟨U, List.mem_of_getElem? HUK.out, by simp [hv]⟩]; rfl)
        clear hv
        go_wp2_with (go_at_call 36; refine Calls.mono (CP.out _) ?_; rintro e w3 ⟨rfl, rfl⟩)
        go_big_quiet (fail)
        go_wp2_with fail
        go_ret
        exact ⟨by rw [HF.out]; rfl, below_drewN (HBW.out.alloc HBW.out.size _) _⟩
      · have HF := Lib.hid (show res = false by rw [HRF.out, show vs.all (valT0 _) = false from by rw [List.all_eq_false]; exact ⟨U, List.mem_of_getElem? HUK.out, by simp [hv]⟩]; rfl)
        have hzb : (y1 == 0) = false := by rw [beq_eq_false_iff_ne]; exact hz
        have hzd : decide (y1 = 0) = false := decide_eq_false hz
        have hze : (y1 != 0) = true := by rw [bne, hzb]; rfl
        clear hv
        go_wp2_with (go_at_call 36; refine Calls.mono (CP.out _) ?_; rintro e w3 ⟨rfl, rfl⟩)
        go_big_quiet (fail)
        go_wp2_with fail
        go_ret
        exact ⟨by rw [HF.out]; rfl, below_drewN (HBW.out.alloc HBW.out.size _) _⟩
      · have HF := Lib.hid (show res = false by rw [HRF.out, show vs.all (valT0 _) = false from by rw [List.all_eq_false]; exact ⟨U, List.mem_of_getElem? HUK.out, by simp [hv]⟩]; rfl)
        clear hv
        go_wp2_with (go_at_call 36; refine Calls.mono (CP.out _) ?_; rintro e w3 ⟨rfl, rfl⟩)
        go_big_quiet (fail)
        go_wp2_with fail
        go_ret
        exact ⟨by rw [HF.out]; rfl, below_drewN (HBW.out.alloc HBW.out.size _) _⟩
      · have HF := Lib.hid (take_more' (p := valT0 _) hall.out HUK.out hv)
        clear hv
        go_wp2_with (go_at_call 36; refine Calls.mono (CP.out _) ?_; rintro e w3 ⟨rfl, rfl⟩)
        go_big_quiet (fail)
        all_goals
          go_wp2_with fail
          go_roundw
          case rel => exact ⟨j + 1, by have := HN.out; omega, by go_num, HF, below_drewN (HBB.out.alloc HBB.out.size _) _⟩
          case measure => simp [intOf]; omega
      · have HF := Lib.hid (show res = false by rw [HRF.out, show vs.all (valT0 _) = false from by rw [List.all_eq_false]; exact ⟨U, List.mem_of_getElem? HUK.out, by simp [hv]⟩]; rfl)
        have hzl := ne_bytes' hz
        have hzb : (t1.toList == []) = false := by rw [beq_eq_false_iff_ne]; exact hzl
        have hzd : decide (t1.toList = []) = false := decide_eq_false hzl
        clear hv
        go_wp2_with (go_at_call 36; refine Calls.mono (CP.out _) ?_; rintro e w3 ⟨rfl, rfl⟩)
        go_big_quiet (fail)
        go_wp2_with fail
        go_ret
        exact ⟨by rw [HF.out]; rfl, below_drewN (HBW.out.alloc HBW.out.size _) _⟩
      · have HF := Lib.hid (take_more' (p := valT0 _) hall.out HUK.out hv)
        clear hv
        go_wp2_with (go_at_call 36; refine Calls.mono (CP.out _) ?_; rintro e w3 ⟨rfl, rfl⟩)
        go_big_quiet (fail)
        all_goals
          go_wp2_with fail
          go_roundw
          case rel => exact ⟨j + 1, by have := HN.out; omega, by go_num, HF, below_drewN (HBB.out.alloc HBB.out.size _) _⟩
          case measure => simp [intOf]; omega
    · have hlz : ¬ (j : Int) < (n : Int) := by omega
      have HAL := Lib.hid (show res = tailB k so.data.toList vs by
        rw [HRF.out, show vs.all (valT0 t0) = true from ?_]
        · rfl
        · rw [List.all_eq_true]
          have := hall.out
          rwa [show j = vs.length by have := HN.out; have := HK.out; omega, List.take_length] at this)
      clear hc
      by_cases h6 : k = 6
      · have HF := Lib.hid (show res = (so.toList == []) by rw [HAL.out, tailB, if_pos h6, Lib.toList_data])
        subst h6
        go_wp2_with fail
        go_ret
        exact ⟨by rw [HF.out]; first | rfl | simp, HBW.out⟩
      by_cases h5 : k = 5
      · have HF := Lib.hid (show res = (decide (n = 1) && t0 && (so.toList == [])) by rw [HAL.out, tailB, if_neg h6, if_pos h5, HFT.out, Lib.toList_data, HN.out])
        subst h5
        by_cases hn1 : n = 1
        · have hn1z : (n : Int) = 1 := by omega
          have HF2 := Lib.hid (show res = (t0 && (so.toList == [])) by rw [HF.out, decide_eq_true hn1]; rfl)
          clear HF
          cases t0
          all_goals
            go_wp2_with fail
            go_ret
            exact ⟨by rw [HF2.out]; first | rfl | simp, HBW.out⟩
        · have hn1z : ¬ (n : Int) = 1 := by omega
          have HF2 := Lib.hid (show res = false by rw [HF.out, decide_eq_false hn1]; rfl)
          go_wp2_with fail
          go_ret
          exact ⟨by rw [HF2.out]; first | rfl | simp, HBW.out⟩
      · have HF := Lib.hid (show res = (decide (n = 1) && op) by rw [HAL.out, tailB, if_neg h6, if_neg h5, HOP.out, HN.out])
        by_cases hn1 : n = 1
        · have hn1z : (n : Int) = 1 := by omega
          have HF2 := Lib.hid (show res = op by rw [HF.out, decide_eq_true hn1]; rfl)
          go_wp2_with (go_at_call 78; refine Calls.mono (CO.out _) ?_; rintro e w3 ⟨rfl, rfl⟩)
          go_ret
          exact ⟨by rw [HF2.out]; first | rfl | simp, HBW.out⟩
        · have hn1z : ¬ (n : Int) = 1 := by omega
          have HF2 := Lib.hid (show res = false by rw [HF.out, decide_eq_false hn1]; rfl)
          go_wp2_with fail
          go_ret
          exact ⟨by rw [HF2.out]; first | rfl | simp, HBW.out⟩
end Go.Proofs.YtmfkpoojfpepaaaGreatDoor.Fl
/-
  Contracts of Same of package filter, of slices.Equal and slices.EqualFunc as it calls them: are two filters the same? To any depth. Memory that was there is left as it was.
-/
namespace Go.Proofs.YtmfkpoojfpepaaaGreatDoor.Fl
open Go.RowKit
set_option linter.unusedVariables false
set_option linter.unusedSimpArgs false

def eqL {α : Type} (p : α → α → Bool) : List α → List α → Bool
  | [], [] => true
  | u :: r, v :: s => p u v && eqL p r s
  | _, _ => false
theorem eqL_len {α : Type} {p : α → α → Bool} : ∀ {l m : List α}, l.length ≠ m.length → eqL p l m = false
  | [], [], h => absurd rfl h
  | [], _ :: _, _ => rfl
  | _ :: _, [], _ => rfl
  | u :: r, v :: s, h => by rw [eqL, eqL_len (by simpa using h), Bool.and_false]
theorem eqL_no {α : Type} {p : α → α → Bool} : ∀ {l m : List α} {k : Nat} {u v : α}, l[k]? = some u → m[k]? = some v → p u v = false → eqL p l m = false
  | [], _, k, u, v, h, _, _ => by simp at h
  | _ :: _, [], k, u, v, _, h, _ => by simp at h
  | a :: r, b :: s, 0, u, v, h1, h2, h => by
    simp at h1 h2
    rw [eqL, h1, h2, h, Bool.false_and]
  | a :: r, b :: s, k + 1, u, v, h1, h2, h => by rw [eqL, eqL_no (k := k) (by simpa using h1) (by simpa using h2) h, Bool.and_false]
theorem eqL_yes {α : Type} {p : α → α → Bool} : ∀ {l m : List α}, l.length = m.length → (∀ (k : Nat) (u v : α), k < l.length → l[k]? = some u → m[k]? = some v → p u v = true) → eqL p l m = true
  | [], [], _, _ => rfl
  | [], _ :: _, h, _ => by simp at h
  | _ :: _, [], h, _ => by simp at h
  | u :: r, v :: s, h, g => by
    rw [eqL, g 0 u v (by simp) (by simp) (by simp), Bool.true_and]
    exact eqL_yes (by simpa using h) fun k a b hk ha hb => g (k + 1) a b (by simpa using hk) (by simpa using ha) (by simpa using hb)
theorem eqL_more {α : Type} {p : α → α → Bool} {l m : List α} {k : Nat} {u v : α} (h : ∀ (i : Nat) (u v : α), i < k → l[i]? = some u → m[i]? = some v → p u v = true) (hu : l[k]? = some u) (hv : m[k]? = some v) (hp : p u v = true) :
    ∀ (i : Nat) (u v : α), i < k + 1 → l[i]? = some u → m[i]? = some v → p u v = true := by
  intro i a b hi ha hb
  by_cases e : i = k
  · subst e
    rw [hu] at ha
    rw [hv] at hb
    cases ha
    cases hb
    exact hp
  · exact h i a b (by omega) ha hb
def attEq (u v : Att) : Bool := u.name == v.name && u.text == v.text && u.num == v.num && u.str == v.str
def attsEq (l m : List Att) : Bool := eqL attEq l m
mutual
def sameB : Flt → Flt → Bool
  | .mk k n o vs ps, g => k == g.kind && n == g.name && o == g.op && attsEq vs g.vals && sameL ps g.parts
def sameL : List Flt → List Flt → Bool
  | [], [] => true
  | p :: r, q :: s => sameB p q && sameL r s
  | _, _ => false
end
theorem sameL_eq : ∀ l m : List Flt, sameL l m = eqL sameB l m
  | [], [] => by rw [sameL, eqL]
  | [], _ :: _ => by rw [sameL, eqL] <;> simp
  | _ :: _, [] => by rw [sameL, eqL] <;> simp
  | p :: r, q :: s => by rw [sameL, eqL, sameL_eq r s]
theorem neq_att (s1 : ByteArray) (t1 : Bool) (n1 : Int) (r1 s2 : ByteArray) (t2 : Bool) (n2 : Int) (r2 : ByteArray) (w : World) :
    (binOp .neq 46 (.agg #[.string s1, .bool t1, .int .i64 n1, .string r1]) (.agg #[.string s2, .bool t2, .int .i64 n2, .string r2])).run Tryz.prog w = .ok (.bool (!(s1.toList == s2.toList && t1 == t2 && n1 == n2 && r1.toList == r2.toList))) w := by
  simp [go_sem]
  by_cases h1 : s1.toList = s2.toList <;> by_cases h2 : t1 = t2 <;> by_cases h3 : n1 = n2 <;> by_cases h4 : r1.toList = r2.toList <;> simp [h1, h2, h3, h4]
theorem att_eq {u v : Att} {s1 r1 s2 r2 : ByteArray} (h1 : s1.data.toList = u.name) (h2 : r1.data.toList = u.str) (h3 : s2.data.toList = v.name) (h4 : r2.data.toList = v.str) : (s1.toList == s2.toList && u.text == v.text && u.num == v.num && r1.toList == r2.toList) = attEq u v := by
  rw [Lib.toList_data, Lib.toList_data, Lib.toList_data, Lib.toList_data, h1, h2, h3, h4, attEq]
def EqR {α : Type} (p : α → α → Bool) (l m : List α) (w : World) (vi : Value) (wr : World) : Prop :=
  ∃ k : Nat, k ≤ l.length ∧ vi = .int .i64 k ∧ Hid (∀ (i : Nat) (u v : α), i < k → l[i]? = some u → m[i]? = some v → p u v = true) ∧ Below w.heap.size w wr

end Go.Proofs.YtmfkpoojfpepaaaGreatDoor.Fl
namespace Go.Proofs.YtmfkpoojfpepaaaGreatDoor.Fl
open Go.RowKit
set_option linter.unusedVariables false
set_option linter.unusedSimpArgs false

theorem beq_bytes (s r : ByteArray) : (s.toList == r.toList) = decide (s = r) := by
  by_cases h : s = r
  · rw [decide_eq_true h, h]; simp
  · rw [decide_eq_false h, beq_eq_false_iff_ne]
    intro e
    rw [Lib.toList_data, Lib.toList_data] at e
    exact h (by obtain ⟨⟨a⟩⟩ := s; obtain ⟨⟨b⟩⟩ := r; simpa using e)
theorem ne_bytes {s r : ByteArray} (h : ¬ s = r) : ¬ s.toList = r.toList := by
  have := beq_bytes s r
  rw [decide_eq_false h, beq_eq_false_iff_ne] at this
  exact this
theorem bs_inj {s : ByteArray} {l : List UInt8} (h : s.data.toList = l) : s = ⟨l.toArray⟩ := by rw [← h]
end Go.Proofs.YtmfkpoojfpepaaaGreatDoor.Fl
