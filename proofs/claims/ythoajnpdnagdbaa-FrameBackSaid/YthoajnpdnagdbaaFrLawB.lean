/-
  The law FrameBack: what was put is told, frame by frame, however it is cut into pieces. Memory that was there is left as it was.
-/
import Derived.Test.YthoajnpdnagdbaaFrLawR
import Derived.Test.YthoajnpdnagdbaaFrOpen
namespace Go.Proofs.Ythoajnpdnagdbaa.Fr
open Go.RowKit Go.Proofs.Ythoajnpdnagdbaa.Fl Go.Proofs.Ythoajnpdnagdbaa.Wi
set_option linter.unusedVariables false
set_option linter.unusedSimpArgs false

theorem frms_len : ∀ (l : List (List UInt8)), (∀ b ∈ l, b.length ≤ 4000) → (frms l).length ≤ 4002 * l.length
  | [], _ => by simp [frms]
  | b :: t, h => by
    have h1 := frms_len t (fun c hc => h c (by simp [hc]))
    have h2 := h b (by simp)
    simp only [frms, frm, List.length_append, List.length_cons]
    omega
theorem errF_ne {k : Nat} (h : k ≠ 5) : errF k = .nilIface := if_neg h
theorem begin_ok {F : List UInt8} {ls : List (List UInt8)} (h : frs F = (ls, 0, [])) (k : Nat) : (frs (F.take k)).2.1 ≠ 5 := frs_begin (F.take k) (F.drop k) (by rw [List.take_append_drop, h]; simp)
def PuR (w2 : World) (ls : List (List UInt8)) (n : Nat) (v7 v8 : Value) (wr : World) : Prop :=
  ∃ (i : Nat) (A : List UInt8) (aa : Option Addr) (na ca : Nat), v7 = .slice aa na ca ∧ v8 = .int .i64 (i : Nat) ∧ i ≤ n ∧ Hid (OB wr w2.heap.size (.slice aa na ca) A) ∧ Hid (Below w2.heap.size w2 wr) ∧ Hid (A = frms (ls.take i)) ∧ Hid (∀ b ∈ ls.take i, b.length ≤ 4000)
def BkR (w0 wL : World) (p : Nat) (SA : Nat → Prop) (F : List UInt8) (m0 : Nat) (v7 v11 v12 : Value) (wr : World) : Prop :=
  ∃ (j k : Nat) (aa : Option Addr) (na ca : Nat) (ga : Option Addr) (gn gc : Nat) (gcs : List Value) (v : Value), v7 = .slice aa na ca ∧ v11 = .slice ga gn gc ∧ v12 = .int .i64 (j : Nat) ∧ j ≤ m0 + 1 ∧ na ≤ ca ∧ Hid (na = (F.drop k).length ∧ k ≤ F.length) ∧ Hid (BytesAt wL SA aa (F.drop k)) ∧ Hid (RdS w0 p none wr v (F.take k) (.slice ga gn gc) gcs) ∧ Hid (∀ g, SA g → wr.heap[g]? = wL.heap[g]?) ∧ Hid (∀ g, v.ownBlock = some g → wL.heap.size ≤ g) ∧ Hid (wL.heap.size ≤ wr.heap.size) ∧ Hid (j = m0 + 1 → k = F.length)
set_option maxHeartbeats 8000000
set_option maxRecDepth 100000
theorem back_any (a : Option Addr) (c : Nat) (lcs : List Value) (ls : List (List UInt8)) (ac : Option Addr) (cc : Nat) (cl : List Int) (w0 : World) (hA : CellsAt w0 (Old w0.heap.size) a lcs) (hL : FsV w0 (Old w0.heap.size) lcs ls) (hI : IntsAt w0 (Old w0.heap.size) ac cl) :
    Calls Try.prog 4 #[.slice a lcs.length c, .slice ac cl.length cc] w0 fun e w' => LawEnd w0 w' e := by
  obtain ⟨n, hn⟩ : ∃ n, n = lcs.length := ⟨_, rfl⟩
  obtain ⟨m0, hm0⟩ : ∃ m, m = cl.length := ⟨_, rfl⟩
  have h63 : n ≤ 9223372036854775807 := by have := hA.1; unfold maxLen at this; omega
  have h63b : m0 ≤ 9223372036854775807 := by have := hI.1; unfold maxLen at this; omega
  have HA := Lib.hid hA
  have HL := Lib.hid hL
  have HI := Lib.hid hI
  have HN := Lib.hid hn
  have HM0 := Lib.hid hm0
  have q0 := neq_ptr
  have q1 := neq_ptr2
  rw [← hn, ← hm0]
  clear hA hL hI hn hm0
  go_enter Try.func4, Try.ntmps4
  go_wp2_with fail
  refine Calls.mono (up_any w0) ?_
  rintro e w1 ⟨rfl, hb1⟩
  have B1 := Lib.hid hb1
  clear hb1
  go_wp2_with fail
  refine Calls.mono (new_any w1) ?_
  rintro e w2 ⟨rfl, hf2, hb2⟩
  obtain ⟨p, hp⟩ : ∃ p, p = w1.heap.size := ⟨_, rfl⟩
  have R2 := Lib.hid (show RdS w0 p none w2 (.slice none 0 0) [] (.slice none 0 0) [] from RdS.new (by rw [hp]; exact hf2) (B1.out.trans (hb2.mono B1.out.size)) (by rw [hp]; exact B1.out.size))
  rw [← hp]
  clear hf2 hb2 hp B1
  by_cases h20 : (20 : Int) < (n : Int)
  · go_wp2_with fail
    go_ret
    exact ⟨rfl, R2.out.bel⟩
  by_cases h100 : (100 : Int) < (m0 : Int)
  · go_wp2_with fail
    go_ret
    exact ⟨rfl, R2.out.bel⟩
  go_wp2_with fail
  go_loopw [7, 8] (fun v7 v8 wr => PuR w2 ls n v7 v8 wr) (fun _ v8 _ => n - (intOf v8).toNat)
  case atStart => exact ⟨0, [], none, 0, 0, rfl, rfl, Nat.zero_le _, Lib.hid (OB.nil _ _), Lib.hid (Below.refl _ _), Lib.hid (by simp [frms]), Lib.hid (by simp)⟩
  case round =>
    obtain ⟨i, A, aa, na, ca, rfl, rfl, hin, HO, HB, HF, HSM⟩ := hrel
    by_cases hlt : i < n
    · have hlz : (i : Int) < (n : Int) := by omega
      have hil : i < ls.length := by rw [← HL.out.1, ← HN.out]; exact hlt
      obtain ⟨g, o, rfl, hg, hcl⟩ := HA.out.2 (by rw [← HN.out]; omega)
      obtain ⟨ai, ci, e1, hci, hbi⟩ := HL.out.2 i hil
      have BW := Lib.hid (show Below w0.heap.size w0 wr from R2.out.bel.trans (HB.out.mono R2.out.bel.size))
      have d1 := (World.cell?_of_block (w := w0) (w' := wr) (a := ⟨g, o + i, none⟩) (BW.out.block g hg)).trans (hcl i _ e1)
      obtain ⟨b, hb⟩ : ∃ b, b = ls[i] := ⟨_, rfl⟩
      obtain ⟨nb, hnb⟩ : ∃ nb, nb = b.length := ⟨_, rfl⟩
      have HTK := Lib.hid (show ls.take (i + 1) = ls.take i ++ [b] by rw [hb]; exact (List.take_append_getElem hil).symm)
      rw [← hb] at d1 hci hbi
      rw [← hnb] at d1 hci
      have HNB := Lib.hid hnb
      have CP := Lib.hid (putF_any ai ci b wr (S := Old w0.heap.size) (fun g hg => Nat.lt_of_lt_of_le hg BW.out.size) (hbi.later BW.out))
      rw [← HNB.out] at CP
      have HG := Lib.hid hg
      clear hcl e1 hb hnb hbi hil
      go_wp2_with fail
      refine Calls.mono CP.out ?_
      rintro e w3 (⟨hbig, rfl, rfl⟩ | ⟨hsm, a3, n3, c3, rfl, ho3, hb3⟩)
      · have hbz : (4000 : Int) < (nb : Int) := by rw [HNB.out]; omega
        have q5 := Cn.eql_codes 5 5
        go_wp2_with fail
        go_ret
        exact ⟨rfl, BW.out⟩
      · have hbz : ¬ (4000 : Int) < (nb : Int) := by rw [HNB.out]; omega
        have d3 := (World.cell?_of_block (w := wr) (w' := w3) (a := ⟨g, o + i, none⟩) (hb3.block g (Nat.lt_of_lt_of_le HG.out BW.out.size))).trans d1
        have q5 := neq_nil
        have O3 := Lib.hid ho3
        have B3 := Lib.hid hb3
        have HSB := Lib.hid hsm
        obtain ⟨w4, hw4⟩ : ∃ W0 : World, W0 = w3.alloc (.cells #[] 5) := ⟨_, rfl⟩
        have O4 := Lib.hid (show OB w4 w3.heap.size (.slice (some ⟨w3.heap.size, 0, none⟩) 0 0) [] by rw [hw4]; exact OB.fresh w3)
        have Y4 := Lib.hid (show Below w3.heap.size w3 w4 by rw [hw4]; exact below_alloc _ _)
        have A4 := Lib.hid (OB.src ((HO.out.later B3.out).later Y4.out))
        have HAL := Lib.hid (show A.length ≤ 80040 by
          have h := frms_len (ls.take i) HSM.out
          rw [← HF.out, List.length_take] at h
          omega)
        have HW4 := Lib.hid hw4
        clear ho3 hb3 hsm hw4
        go_wp2_with (first
          | (refine wpList_emptyB rfl rfl ?_; rw [← HW4.out])
          | (at_builtin; refine wpList_append_bytes rfl _ _ rfl w3.heap.size _ [] rfl O4.out aa na ca A A4.out.1 rfl A4.out.2.2 (by have := HAL.out; simp; omega) Y4.out.size ?_; intro v' w5 hrow5 hg5 hat5; obtain ⟨a5, n5, c5, e5⟩ := own_slice hrow5; subst e5
             have O5 := Lib.hid (show OB w5 w3.heap.size (.slice a5 n5 c5) A from hrow5)
             have Y5 := Lib.hid (show Below w3.heap.size w3 w5 from below_grown Y4.out Y4.out.size hg5 (fun k hk => (O4.out.lt hk).1))
             have P5 := Lib.hid (OB.src (O3.out.later Y5.out))
             clear hrow5 hg5 hat5)
          | (at_builtin; refine wpList_append_bytes rfl _ _ rfl w3.heap.size _ A rfl O5.out a3 n3 c3 (frm b) P5.out.1 rfl P5.out.2.2 (by have := HAL.out; have := HSB.out; simp only [frm, List.length_cons]; omega) Y5.out.size ?_; intro v' w6 hrow6 hg6 hat6; obtain ⟨a6, n6, c6, e6⟩ := own_slice hrow6; subst e6
             have O6 := Lib.hid hrow6
             have Y6 := Lib.hid (show Below w3.heap.size w3 w6 from below_grown Y5.out Y5.out.size hg6 (fun k hk => (O5.out.lt hk).1))
             clear hrow6 hg6 hat6))
        go_roundw
        case rel => exact ⟨i + 1, A ++ frm b, a6, n6, c6, rfl, by go_num, by omega, Lib.hid (O6.out.mono (Nat.le_trans HB.out.size B3.out.size)), Lib.hid (HB.out.trans ((B3.out.trans (Y6.out.mono B3.out.size)).mono HB.out.size)), Lib.hid (by rw [HTK.out, frms_append, ← HF.out]; simp [frms]), Lib.hid (by
          rw [HTK.out]
          intro x hx
          rcases List.mem_append.1 hx with h | h
          · exact HSM.out x h
          · simp at h; rw [h]; exact HSB.out)⟩
        case measure => simp [intOf]; omega
    · have hlz : ¬ (i : Int) < (n : Int) := by omega
      have hall : ls.take i = ls := List.take_of_length_le (by rw [← HL.out.1, ← HN.out]; omega)
      rw [hall] at HF HSM
      have HFR := Lib.hid (show frs A = (ls, 0, []) by rw [HF.out]; exact frs_frms ls HSM.out)
      have HAL := Lib.hid (show A.length ≤ 80040 by
        have h := frms_len ls HSM.out
        rw [← HF.out, ← HL.out.1, ← HN.out] at h
        omega)
      have RL := Lib.hid (R2.out.later (av := none) HB.out (fun k e => by cases e))
      obtain ⟨hna, hca, hby⟩ := own_bytes HO.out
      obtain ⟨SA, hSA⟩ : ∃ SA : Nat → Prop, SA = fun g => (Value.slice aa na ca).ownBlock = some g := ⟨_, rfl⟩
      have HSA := Lib.hid (show ∀ g, SA g → p < g ∧ g < wr.heap.size from fun g hg => by
        rw [hSA] at hg
        have h1 := HO.out.lt hg
        have h2 := FrAt.lt R2.out.rd
        omega)
      have HBY := Lib.hid (show BytesAt wr SA aa A by rw [hSA]; exact hby)
      have HNA := Lib.hid hna
      have hnc : na ≤ ca := by rw [hna]; exact hca
      obtain ⟨wL, hwL⟩ : ∃ W0 : World, W0 = wr := ⟨_, rfl⟩
      rw [← hwL] at HBY HSA RL ⊢
      have LL := Lib.hid (show w0.heap.size ≤ wL.heap.size from RL.out.bel.size)
      clear hall hna hca hby hSA hwL HO HB HF HSM R2 hin
      go_wp2_with fail
      go_loopw [7, 11, 12] (fun v7 v11 v12 wr => BkR w0 wL p SA A m0 v7 v11 v12 wr) (fun _ _ v12 _ => m0 + 1 - (intOf v12).toNat)
      case atStart => exact ⟨0, 0, aa, na, ca, none, 0, 0, [], .slice none 0 0, rfl, rfl, rfl, Nat.zero_le _, hnc, Lib.hid ⟨HNA.out, Nat.zero_le _⟩, HBY, RL, Lib.hid (fun g _ => rfl), Lib.hid (fun g e => by cases e), Lib.hid (Nat.le_refl _), Lib.hid (fun e => by omega)⟩
      case round =>
        clear HBY HNA RL hnc
        obtain ⟨j, k, aa, na, ca, ga, gn, gc, gcs, v, rfl, rfl, rfl, hjm, hnc, HNK, HBY, R, KP, VO, SZ, HEND⟩ := hrel
        have HN1 := Lib.hid (show na ≤ 80040 by rw [HNK.out.1, List.length_drop]; have := HAL.out; omega)
        have hna5 : na ≤ 80040 := HN1.out
        by_cases hj : j ≤ m0
        · have hjz : (j : Int) ≤ (m0 : Int) := by omega
          by_cases hjl : j < m0
          · have hjlz : (j : Int) < (m0 : Int) := by omega
            obtain ⟨gi, oi, rfl, hgi, hci⟩ := HI.out.2 (by rw [← HM0.out]; omega)
            have di := (World.cell?_of_block (w := w0) (w' := wr) (a := ⟨gi, oi + j, none⟩) (R.out.bel.block gi hgi)).trans (hci j (by rw [← HM0.out]; exact hjl))
            obtain ⟨z, hz⟩ : ∃ z, z = cl[j]'(by rw [← HM0.out]; exact hjl) := ⟨_, rfl⟩
            rw [← hz] at di
            clear hci hz
            by_cases hzin : 0 ≤ z ∧ z < (na : Int)
            · obtain ⟨nn, hnz, hnn⟩ : ∃ nn : Nat, z = (nn : Int) ∧ nn < na := ⟨z.toNat, by omega, by omega⟩
              subst hnz
              have hz0 : (0 : Int) ≤ (nn : Int) := by omega
              have hzn : (nn : Int) < (na : Int) := by omega
              clear hzin
              have hnn1 : nn ≤ na := by omega
              have q8 := fun W => run_front aa na ca nn (by omega) W
              have q9 := fun W => run_rest aa na ca nn hnn1 W
              have HT := Lib.hid (show nn = ((A.drop k).take nn).length by rw [List.length_take, ← HNK.out.1]; omega)
              have HTA := Lib.hid (show A.take k ++ (A.drop k).take nn = A.take (k + nn) from List.take_add.symm)
              have B4 := Lib.hid (show BytesAt wr SA (front aa ca) ((A.drop k).take nn) from BytesAt.take (HBY.out.far fun g hg => ⟨hg, KP.out g hg⟩) (by rw [← HNK.out.1]; exact hnn1))
              have B5 := Lib.hid (show BytesAt wL SA (rest aa ca nn) (A.drop (k + nn)) by
                have h := HBY.out.drop (c := ca) (k := nn) (by rw [← HNK.out.1]; exact hnn1) (by rw [← HNK.out.1]; exact hnc)
                rwa [List.drop_drop] at h)
              have CF := Lib.hid (feed_any p v (A.take k) (front aa ca) ca ((A.drop k).take nn) wr R.out.rd B4.out (by rw [← HT.out]; omega) (fun g hg => by
                obtain ⟨l1, l2⟩ := HSA.out g hg
                refine ⟨Nat.lt_of_lt_of_le l2 SZ.out, by omega, fun e => ?_⟩
                have := VO.out g e.symm
                omega) (by rw [HTA.out, List.length_take]; have := HAL.out; omega))
              rw [← HT.out] at CF
              go_wp2_with fail
              refine Calls.mono CF.out ?_
              rintro e w5 ⟨ta, tn, tc, cs, T, v5, rfl, h1, h2, h3, h4, h5⟩
              have R5 := Lib.hid (show RdF w0 p none w5 v5 (A.take (k + nn)) (.slice ga gn gc) gcs (.slice ta tn tc) cs by
                have h := R.out.fed (fun k e => by cases e) h1 h2 h3 h4 h5
                rwa [HTA.out] at h)
              have K5 := Lib.hid (show ∀ g, SA g → w5.heap[g]? = wL.heap[g]? from fun g hg => by
                obtain ⟨l1, l2⟩ := HSA.out g hg
                rw [h5.block g (Nat.lt_of_lt_of_le l2 SZ.out) (by omega) (fun e => by have := VO.out g e.symm; omega)]
                exact KP.out g hg)
              have V5 := Lib.hid (show ∀ g, v5.ownBlock = some g → wL.heap.size ≤ g from fun g e => by
                rcases h5.nxt with e3 | e3 | ⟨b, e3, hb⟩
                · rw [e3] at e; cases e
                · rw [e3] at e; exact VO.out g e
                · rw [e3] at e; cases e; exact Nat.le_trans SZ.out hb)
              have S5 := Lib.hid (show wL.heap.size ≤ w5.heap.size from Nat.le_trans SZ.out h5.size)
              rw [HTA.out, errF_ne (begin_ok HFR.out (k + nn))]
              clear h1 h2 h3 h4 h5 q8
              have q5 := neq_nil
              have HLG := Lib.hid (show gcs.length + cs.length ≤ 80040 by
                have h1 := R5.out.fr.1
                have h2 := frs_count (A.take (k + nn))
                rw [List.length_append] at h1
                rw [List.length_take] at h2
                have := HAL.out
                omega)
              have ONE := Lib.hid (show ∀ u ∈ gcs ++ cs, u.oneCell' = true from R5.out.fr.one')
              obtain ⟨w7, hw7⟩ : ∃ W0 : World, W0 = w5.alloc (.cells #[] 26) := ⟨_, rfl⟩
              have S7 := Lib.hid (show OS w7 w5.heap.size (.slice (some ⟨w5.heap.size, 0, none⟩) 0 0) [] by rw [hw7]; exact OS.fresh w5)
              have Z7 := Lib.hid (show Below w5.heap.size w5 w7 by rw [hw7]; exact below_alloc _ _)
              have G7 := Lib.hid (R5.out.go.later Z7.out).src
              have HW7 := Lib.hid hw7
              clear hw7
              go_wp2_with (first
                | (refine wpList_emptyS rfl rfl ?_; rw [← HW7.out])
                | (at_builtin; refine wpList_append_slices rfl _ _ rfl w5.heap.size _ [] rfl S7.out ga gn gc gcs G7.out.1 rfl G7.out.2 (fun u hu => ONE.out u (List.mem_append_left _ hu)) (by have := HLG.out; simp; omega) Z7.out.size ?_; intro v' w8 hrow8 hg8 hat8; obtain ⟨a8, n8, c8, e8⟩ := own_slice hrow8; subst e8
                   have S8 := Lib.hid (show OS w8 w5.heap.size (.slice a8 n8 c8) gcs from hrow8)
                   have Z8 := Lib.hid (show Below w5.heap.size w5 w8 from below_grown Z7.out Z7.out.size hg8 (fun k hk => (S7.out.lt hk).1))
                   have G8 := Lib.hid (R5.out.xs.later Z8.out).src
                   clear hrow8 hg8 hat8)
                | (at_builtin; refine wpList_append_slices rfl _ _ rfl w5.heap.size _ gcs rfl S8.out ta tn tc cs G8.out.1 rfl G8.out.2 (fun u hu => ONE.out u (List.mem_append_right _ hu)) (by have := HLG.out; omega) Z8.out.size ?_; intro v' w9 hrow9 hg9 hat9; obtain ⟨a9, n9, c9, e9⟩ := own_slice hrow9; subst e9
                   have S9 := Lib.hid hrow9
                   have Z9 := Lib.hid (show Below w5.heap.size w5 w9 from below_grown Z8.out Z8.out.size hg9 (fun k hk => (S8.out.lt hk).1))
                   clear hrow9 hg9 hat9))
              go_roundw
              case rel => exact ⟨j + 1, k + nn, rest aa ca nn, na - nn, ca - nn, a9, n9, c9, gcs ++ cs, v5, rfl, rfl, by go_num, by omega, by omega, Lib.hid ⟨by have := HNK.out; rw [List.length_drop] at *; omega, by have := HNK.out; rw [List.length_drop] at this; omega⟩, B5, Lib.hid (R5.out.done (Nat.le_refl _) S9.out Z9.out), Lib.hid (fun g hg => (Z9.out.block g (Nat.lt_of_lt_of_le (HSA.out g hg).2 S5.out)).trans (K5.out g hg)), V5, Lib.hid (Nat.le_trans S5.out Z9.out.size), Lib.hid (fun e => by omega)⟩
              case measure => simp [intOf]; omega
            · by_cases hz0 : 0 ≤ z
              · have hzn : ¬ z < (na : Int) := by omega
                clear hzin
                have HNN := Lib.hid (show na = na from rfl)
                have hnn1 : na ≤ na := by omega
                have q8 := fun W => run_front aa na ca na (by omega) W
                have q9 := fun W => run_rest aa na ca na hnn1 W
                have HT := Lib.hid (show na = ((A.drop k).take na).length by rw [List.length_take, ← HNK.out.1]; omega)
                have HTA := Lib.hid (show A.take k ++ (A.drop k).take na = A.take (k + na) from List.take_add.symm)
                have B4 := Lib.hid (show BytesAt wr SA (front aa ca) ((A.drop k).take na) from BytesAt.take (HBY.out.far fun g hg => ⟨hg, KP.out g hg⟩) (by rw [← HNK.out.1]; exact hnn1))
                have B5 := Lib.hid (show BytesAt wL SA (rest aa ca na) (A.drop (k + na)) by
                  have h := HBY.out.drop (c := ca) (k := na) (by rw [← HNK.out.1]; exact hnn1) (by rw [← HNK.out.1]; exact hnc)
                  rwa [List.drop_drop] at h)
                have CF := Lib.hid (feed_any p v (A.take k) (front aa ca) ca ((A.drop k).take na) wr R.out.rd B4.out (by rw [← HT.out]; omega) (fun g hg => by
                  obtain ⟨l1, l2⟩ := HSA.out g hg
                  refine ⟨Nat.lt_of_lt_of_le l2 SZ.out, by omega, fun e => ?_⟩
                  have := VO.out g e.symm
                  omega) (by rw [HTA.out, List.length_take]; have := HAL.out; omega))
                rw [← HT.out] at CF
                go_wp2_with fail
                refine Calls.mono CF.out ?_
                rintro e w5 ⟨ta, tn, tc, cs, T, v5, rfl, h1, h2, h3, h4, h5⟩
                have R5 := Lib.hid (show RdF w0 p none w5 v5 (A.take (k + na)) (.slice ga gn gc) gcs (.slice ta tn tc) cs by
                  have h := R.out.fed (fun k e => by cases e) h1 h2 h3 h4 h5
                  rwa [HTA.out] at h)
                have K5 := Lib.hid (show ∀ g, SA g → w5.heap[g]? = wL.heap[g]? from fun g hg => by
                  obtain ⟨l1, l2⟩ := HSA.out g hg
                  rw [h5.block g (Nat.lt_of_lt_of_le l2 SZ.out) (by omega) (fun e => by have := VO.out g e.symm; omega)]
                  exact KP.out g hg)
                have V5 := Lib.hid (show ∀ g, v5.ownBlock = some g → wL.heap.size ≤ g from fun g e => by
                  rcases h5.nxt with e3 | e3 | ⟨b, e3, hb⟩
                  · rw [e3] at e; cases e
                  · rw [e3] at e; exact VO.out g e
                  · rw [e3] at e; cases e; exact Nat.le_trans SZ.out hb)
                have S5 := Lib.hid (show wL.heap.size ≤ w5.heap.size from Nat.le_trans SZ.out h5.size)
                rw [HTA.out, errF_ne (begin_ok HFR.out (k + na))]
                clear h1 h2 h3 h4 h5 q8
                have q5 := neq_nil
                have HLG := Lib.hid (show gcs.length + cs.length ≤ 80040 by
                  have h1 := R5.out.fr.1
                  have h2 := frs_count (A.take (k + na))
                  rw [List.length_append] at h1
                  rw [List.length_take] at h2
                  have := HAL.out
                  omega)
                have ONE := Lib.hid (show ∀ u ∈ gcs ++ cs, u.oneCell' = true from R5.out.fr.one')
                obtain ⟨w7, hw7⟩ : ∃ W0 : World, W0 = w5.alloc (.cells #[] 26) := ⟨_, rfl⟩
                have S7 := Lib.hid (show OS w7 w5.heap.size (.slice (some ⟨w5.heap.size, 0, none⟩) 0 0) [] by rw [hw7]; exact OS.fresh w5)
                have Z7 := Lib.hid (show Below w5.heap.size w5 w7 by rw [hw7]; exact below_alloc _ _)
                have G7 := Lib.hid (R5.out.go.later Z7.out).src
                have HW7 := Lib.hid hw7
                clear hw7
                go_wp2_with (first
                  | (refine wpList_emptyS rfl rfl ?_; rw [← HW7.out])
                  | (at_builtin; refine wpList_append_slices rfl _ _ rfl w5.heap.size _ [] rfl S7.out ga gn gc gcs G7.out.1 rfl G7.out.2 (fun u hu => ONE.out u (List.mem_append_left _ hu)) (by have := HLG.out; simp; omega) Z7.out.size ?_; intro v' w8 hrow8 hg8 hat8; obtain ⟨a8, n8, c8, e8⟩ := own_slice hrow8; subst e8
                     have S8 := Lib.hid (show OS w8 w5.heap.size (.slice a8 n8 c8) gcs from hrow8)
                     have Z8 := Lib.hid (show Below w5.heap.size w5 w8 from below_grown Z7.out Z7.out.size hg8 (fun k hk => (S7.out.lt hk).1))
                     have G8 := Lib.hid (R5.out.xs.later Z8.out).src
                     clear hrow8 hg8 hat8)
                  | (at_builtin; refine wpList_append_slices rfl _ _ rfl w5.heap.size _ gcs rfl S8.out ta tn tc cs G8.out.1 rfl G8.out.2 (fun u hu => ONE.out u (List.mem_append_right _ hu)) (by have := HLG.out; omega) Z8.out.size ?_; intro v' w9 hrow9 hg9 hat9; obtain ⟨a9, n9, c9, e9⟩ := own_slice hrow9; subst e9
                     have S9 := Lib.hid hrow9
                     have Z9 := Lib.hid (show Below w5.heap.size w5 w9 from below_grown Z8.out Z8.out.size hg9 (fun k hk => (S8.out.lt hk).1))
                     clear hrow9 hg9 hat9))
                go_roundw
                case rel => exact ⟨j + 1, k + na, rest aa ca na, 0, ca - na, a9, n9, c9, gcs ++ cs, v5, rfl, rfl, by go_num, by omega, by omega, Lib.hid ⟨by have := HNK.out; rw [List.length_drop] at *; omega, by have := HNK.out; rw [List.length_drop] at this; omega⟩, B5, Lib.hid (R5.out.done (Nat.le_refl _) S9.out Z9.out), Lib.hid (fun g hg => (Z9.out.block g (Nat.lt_of_lt_of_le (HSA.out g hg).2 S5.out)).trans (K5.out g hg)), V5, Lib.hid (Nat.le_trans S5.out Z9.out.size), Lib.hid (fun e => by omega)⟩
                case measure => simp [intOf]; omega
              · clear hzin
                have HNN := Lib.hid (show na = na from rfl)
                have hnn1 : na ≤ na := by omega
                have q8 := fun W => run_front aa na ca na (by omega) W
                have q9 := fun W => run_rest aa na ca na hnn1 W
                have HT := Lib.hid (show na = ((A.drop k).take na).length by rw [List.length_take, ← HNK.out.1]; omega)
                have HTA := Lib.hid (show A.take k ++ (A.drop k).take na = A.take (k + na) from List.take_add.symm)
                have B4 := Lib.hid (show BytesAt wr SA (front aa ca) ((A.drop k).take na) from BytesAt.take (HBY.out.far fun g hg => ⟨hg, KP.out g hg⟩) (by rw [← HNK.out.1]; exact hnn1))
                have B5 := Lib.hid (show BytesAt wL SA (rest aa ca na) (A.drop (k + na)) by
                  have h := HBY.out.drop (c := ca) (k := na) (by rw [← HNK.out.1]; exact hnn1) (by rw [← HNK.out.1]; exact hnc)
                  rwa [List.drop_drop] at h)
                have CF := Lib.hid (feed_any p v (A.take k) (front aa ca) ca ((A.drop k).take na) wr R.out.rd B4.out (by rw [← HT.out]; omega) (fun g hg => by
                  obtain ⟨l1, l2⟩ := HSA.out g hg
                  refine ⟨Nat.lt_of_lt_of_le l2 SZ.out, by omega, fun e => ?_⟩
                  have := VO.out g e.symm
                  omega) (by rw [HTA.out, List.length_take]; have := HAL.out; omega))
                rw [← HT.out] at CF
                go_wp2_with fail
                refine Calls.mono CF.out ?_
                rintro e w5 ⟨ta, tn, tc, cs, T, v5, rfl, h1, h2, h3, h4, h5⟩
                have R5 := Lib.hid (show RdF w0 p none w5 v5 (A.take (k + na)) (.slice ga gn gc) gcs (.slice ta tn tc) cs by
                  have h := R.out.fed (fun k e => by cases e) h1 h2 h3 h4 h5
                  rwa [HTA.out] at h)
                have K5 := Lib.hid (show ∀ g, SA g → w5.heap[g]? = wL.heap[g]? from fun g hg => by
                  obtain ⟨l1, l2⟩ := HSA.out g hg
                  rw [h5.block g (Nat.lt_of_lt_of_le l2 SZ.out) (by omega) (fun e => by have := VO.out g e.symm; omega)]
                  exact KP.out g hg)
                have V5 := Lib.hid (show ∀ g, v5.ownBlock = some g → wL.heap.size ≤ g from fun g e => by
                  rcases h5.nxt with e3 | e3 | ⟨b, e3, hb⟩
                  · rw [e3] at e; cases e
                  · rw [e3] at e; exact VO.out g e
                  · rw [e3] at e; cases e; exact Nat.le_trans SZ.out hb)
                have S5 := Lib.hid (show wL.heap.size ≤ w5.heap.size from Nat.le_trans SZ.out h5.size)
                rw [HTA.out, errF_ne (begin_ok HFR.out (k + na))]
                clear h1 h2 h3 h4 h5 q8
                have q5 := neq_nil
                have HLG := Lib.hid (show gcs.length + cs.length ≤ 80040 by
                  have h1 := R5.out.fr.1
                  have h2 := frs_count (A.take (k + na))
                  rw [List.length_append] at h1
                  rw [List.length_take] at h2
                  have := HAL.out
                  omega)
                have ONE := Lib.hid (show ∀ u ∈ gcs ++ cs, u.oneCell' = true from R5.out.fr.one')
                obtain ⟨w7, hw7⟩ : ∃ W0 : World, W0 = w5.alloc (.cells #[] 26) := ⟨_, rfl⟩
                have S7 := Lib.hid (show OS w7 w5.heap.size (.slice (some ⟨w5.heap.size, 0, none⟩) 0 0) [] by rw [hw7]; exact OS.fresh w5)
                have Z7 := Lib.hid (show Below w5.heap.size w5 w7 by rw [hw7]; exact below_alloc _ _)
                have G7 := Lib.hid (R5.out.go.later Z7.out).src
                have HW7 := Lib.hid hw7
                clear hw7
                go_wp2_with (first
                  | (refine wpList_emptyS rfl rfl ?_; rw [← HW7.out])
                  | (at_builtin; refine wpList_append_slices rfl _ _ rfl w5.heap.size _ [] rfl S7.out ga gn gc gcs G7.out.1 rfl G7.out.2 (fun u hu => ONE.out u (List.mem_append_left _ hu)) (by have := HLG.out; simp; omega) Z7.out.size ?_; intro v' w8 hrow8 hg8 hat8; obtain ⟨a8, n8, c8, e8⟩ := own_slice hrow8; subst e8
                     have S8 := Lib.hid (show OS w8 w5.heap.size (.slice a8 n8 c8) gcs from hrow8)
                     have Z8 := Lib.hid (show Below w5.heap.size w5 w8 from below_grown Z7.out Z7.out.size hg8 (fun k hk => (S7.out.lt hk).1))
                     have G8 := Lib.hid (R5.out.xs.later Z8.out).src
                     clear hrow8 hg8 hat8)
                  | (at_builtin; refine wpList_append_slices rfl _ _ rfl w5.heap.size _ gcs rfl S8.out ta tn tc cs G8.out.1 rfl G8.out.2 (fun u hu => ONE.out u (List.mem_append_right _ hu)) (by have := HLG.out; omega) Z8.out.size ?_; intro v' w9 hrow9 hg9 hat9; obtain ⟨a9, n9, c9, e9⟩ := own_slice hrow9; subst e9
                     have S9 := Lib.hid hrow9
                     have Z9 := Lib.hid (show Below w5.heap.size w5 w9 from below_grown Z8.out Z8.out.size hg9 (fun k hk => (S8.out.lt hk).1))
                     clear hrow9 hg9 hat9))
                go_roundw
                case rel => exact ⟨j + 1, k + na, rest aa ca na, 0, ca - na, a9, n9, c9, gcs ++ cs, v5, rfl, rfl, by go_num, by omega, by omega, Lib.hid ⟨by have := HNK.out; rw [List.length_drop] at *; omega, by have := HNK.out; rw [List.length_drop] at this; omega⟩, B5, Lib.hid (R5.out.done (Nat.le_refl _) S9.out Z9.out), Lib.hid (fun g hg => (Z9.out.block g (Nat.lt_of_lt_of_le (HSA.out g hg).2 S5.out)).trans (K5.out g hg)), V5, Lib.hid (Nat.le_trans S5.out Z9.out.size), Lib.hid (fun e => by omega)⟩
                case measure => simp [intOf]; omega
          · have hjlz : ¬ (j : Int) < (m0 : Int) := by omega
            have HNN := Lib.hid (show na = na from rfl)
            have hnn1 : na ≤ na := by omega
            have q8 := fun W => run_front aa na ca na (by omega) W
            have q9 := fun W => run_rest aa na ca na hnn1 W
            have HT := Lib.hid (show na = ((A.drop k).take na).length by rw [List.length_take, ← HNK.out.1]; omega)
            have HTA := Lib.hid (show A.take k ++ (A.drop k).take na = A.take (k + na) from List.take_add.symm)
            have B4 := Lib.hid (show BytesAt wr SA (front aa ca) ((A.drop k).take na) from BytesAt.take (HBY.out.far fun g hg => ⟨hg, KP.out g hg⟩) (by rw [← HNK.out.1]; exact hnn1))
            have B5 := Lib.hid (show BytesAt wL SA (rest aa ca na) (A.drop (k + na)) by
              have h := HBY.out.drop (c := ca) (k := na) (by rw [← HNK.out.1]; exact hnn1) (by rw [← HNK.out.1]; exact hnc)
              rwa [List.drop_drop] at h)
            have CF := Lib.hid (feed_any p v (A.take k) (front aa ca) ca ((A.drop k).take na) wr R.out.rd B4.out (by rw [← HT.out]; omega) (fun g hg => by
              obtain ⟨l1, l2⟩ := HSA.out g hg
              refine ⟨Nat.lt_of_lt_of_le l2 SZ.out, by omega, fun e => ?_⟩
              have := VO.out g e.symm
              omega) (by rw [HTA.out, List.length_take]; have := HAL.out; omega))
            rw [← HT.out] at CF
            go_wp2_with fail
            refine Calls.mono CF.out ?_
            rintro e w5 ⟨ta, tn, tc, cs, T, v5, rfl, h1, h2, h3, h4, h5⟩
            have R5 := Lib.hid (show RdF w0 p none w5 v5 (A.take (k + na)) (.slice ga gn gc) gcs (.slice ta tn tc) cs by
              have h := R.out.fed (fun k e => by cases e) h1 h2 h3 h4 h5
              rwa [HTA.out] at h)
            have K5 := Lib.hid (show ∀ g, SA g → w5.heap[g]? = wL.heap[g]? from fun g hg => by
              obtain ⟨l1, l2⟩ := HSA.out g hg
              rw [h5.block g (Nat.lt_of_lt_of_le l2 SZ.out) (by omega) (fun e => by have := VO.out g e.symm; omega)]
              exact KP.out g hg)
            have V5 := Lib.hid (show ∀ g, v5.ownBlock = some g → wL.heap.size ≤ g from fun g e => by
              rcases h5.nxt with e3 | e3 | ⟨b, e3, hb⟩
              · rw [e3] at e; cases e
              · rw [e3] at e; exact VO.out g e
              · rw [e3] at e; cases e; exact Nat.le_trans SZ.out hb)
            have S5 := Lib.hid (show wL.heap.size ≤ w5.heap.size from Nat.le_trans SZ.out h5.size)
            rw [HTA.out, errF_ne (begin_ok HFR.out (k + na))]
            clear h1 h2 h3 h4 h5 q8
            have q5 := neq_nil
            have HLG := Lib.hid (show gcs.length + cs.length ≤ 80040 by
              have h1 := R5.out.fr.1
              have h2 := frs_count (A.take (k + na))
              rw [List.length_append] at h1
              rw [List.length_take] at h2
              have := HAL.out
              omega)
            have ONE := Lib.hid (show ∀ u ∈ gcs ++ cs, u.oneCell' = true from R5.out.fr.one')
            obtain ⟨w7, hw7⟩ : ∃ W0 : World, W0 = w5.alloc (.cells #[] 26) := ⟨_, rfl⟩
            have S7 := Lib.hid (show OS w7 w5.heap.size (.slice (some ⟨w5.heap.size, 0, none⟩) 0 0) [] by rw [hw7]; exact OS.fresh w5)
            have Z7 := Lib.hid (show Below w5.heap.size w5 w7 by rw [hw7]; exact below_alloc _ _)
            have G7 := Lib.hid (R5.out.go.later Z7.out).src
            have HW7 := Lib.hid hw7
            clear hw7
            go_wp2_with (first
              | (refine wpList_emptyS rfl rfl ?_; rw [← HW7.out])
              | (at_builtin; refine wpList_append_slices rfl _ _ rfl w5.heap.size _ [] rfl S7.out ga gn gc gcs G7.out.1 rfl G7.out.2 (fun u hu => ONE.out u (List.mem_append_left _ hu)) (by have := HLG.out; simp; omega) Z7.out.size ?_; intro v' w8 hrow8 hg8 hat8; obtain ⟨a8, n8, c8, e8⟩ := own_slice hrow8; subst e8
                 have S8 := Lib.hid (show OS w8 w5.heap.size (.slice a8 n8 c8) gcs from hrow8)
                 have Z8 := Lib.hid (show Below w5.heap.size w5 w8 from below_grown Z7.out Z7.out.size hg8 (fun k hk => (S7.out.lt hk).1))
                 have G8 := Lib.hid (R5.out.xs.later Z8.out).src
                 clear hrow8 hg8 hat8)
              | (at_builtin; refine wpList_append_slices rfl _ _ rfl w5.heap.size _ gcs rfl S8.out ta tn tc cs G8.out.1 rfl G8.out.2 (fun u hu => ONE.out u (List.mem_append_right _ hu)) (by have := HLG.out; omega) Z8.out.size ?_; intro v' w9 hrow9 hg9 hat9; obtain ⟨a9, n9, c9, e9⟩ := own_slice hrow9; subst e9
                 have S9 := Lib.hid hrow9
                 have Z9 := Lib.hid (show Below w5.heap.size w5 w9 from below_grown Z8.out Z8.out.size hg9 (fun k hk => (S8.out.lt hk).1))
                 clear hrow9 hg9 hat9))
            go_roundw
            case rel => exact ⟨j + 1, k + na, rest aa ca na, 0, ca - na, a9, n9, c9, gcs ++ cs, v5, rfl, rfl, by go_num, by omega, by omega, Lib.hid ⟨by have := HNK.out; rw [List.length_drop] at *; omega, by have := HNK.out; rw [List.length_drop] at this; omega⟩, B5, Lib.hid (R5.out.done (Nat.le_refl _) S9.out Z9.out), Lib.hid (fun g hg => (Z9.out.block g (Nat.lt_of_lt_of_le (HSA.out g hg).2 S5.out)).trans (K5.out g hg)), V5, Lib.hid (Nat.le_trans S5.out Z9.out.size), Lib.hid (fun e => by have := HNK.out; have := HNN.out; rw [List.length_drop] at *; omega)⟩
            case measure => simp [intOf]; omega
        · have hjz : ¬ (j : Int) ≤ (m0 : Int) := by omega
          have hk : k = A.length := HEND.out (by omega)
          have HTK := Lib.hid (show A.take k = A by rw [hk, List.take_length])
          have HCE := Lib.hid (show 0 = (frs (A.take k)).2.1 by rw [HTK.out, HFR.out])
          have CW := Lib.hid (whole_any ga gc gcs ls a c lcs ls wr R.out.go.src.2 (by
            have h := R.out.fr
            rw [HTK.out, HFR.out] at h
            exact h.far fun g hg => ⟨hg.1, rfl⟩) (HA.out.far fun g hg => ⟨Nat.lt_of_lt_of_le hg R.out.bel.size, R.out.bel.block g hg⟩) (HL.out.far fun g hg => ⟨Nat.lt_of_lt_of_le hg R.out.bel.size, R.out.bel.block g hg⟩))
          rw [← R.out.go.src.1, ← HN.out, decide_eq_true (rfl : ls = ls)] at CW
          clear hk
          go_wp2_with fail
          refine Calls.mono CW.out ?_
          rintro e w6 ⟨rfl, hb6⟩
          have R6 := Lib.hid (R.out.later (av := none) hb6 (fun k e => by cases e))
          have CE := Lib.hid (show Calls Try.prog 11 #[.pointer (some ⟨p, 0, none⟩)] w6 fun e w' => e = .returned .nilIface ∧ w6 = w' from end_of p v (A.take k) w6 R6.out.rd (by rw [HTK.out]; have := HAL.out; omega) 0 HCE.out)
          have q6 := Cn.nil_nil
          clear hb6
          go_wp2_with fail
          refine Calls.mono CE.out ?_
          rintro e w7 ⟨rfl, rfl⟩
          go_wp2_with fail
          go_ret
          exact ⟨rfl, R6.out.bel⟩
end Go.Proofs.Ythoajnpdnagdbaa.Fr
