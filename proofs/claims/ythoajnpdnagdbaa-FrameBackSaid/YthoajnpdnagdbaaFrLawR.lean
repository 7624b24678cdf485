/-
  The law FrameReads: whatever pieces of bytes are fed, the frames told are the document's, and so is what is told at the end. Memory that was there is left as it was.
-/
import Derived.Test.YthoajnpdnagdbaaFrEmpty
import Derived.Test.YthoajnpdnagdbaaFrUp
import Derived.Test.YthoajnpdnagdbaaFrWhole
namespace Go.Proofs.Ythoajnpdnagdbaa.Fr
open Go.RowKit Go.Proofs.Ythoajnpdnagdbaa.Fl Go.Proofs.Ythoajnpdnagdbaa.Wi
set_option linter.unusedVariables false
set_option linter.unusedSimpArgs false

def LawEnd (w w' : World) (e : Ending) : Prop := e = .returned (.bool true) ∧ Below w.heap.size w w'
theorem neq_ptr (g o : Nat) (w : World) : (binOp .eql 24 (.pointer (some ⟨g, o, none⟩)) (.pointer none)).run Try.prog w = .ok (.bool false) w := by kernel_rfl
theorem neq_ptr2 (g o : Nat) (w : World) : (binOp .neq 24 (.pointer (some ⟨g, o, none⟩)) (.pointer none)).run Try.prog w = .ok (.bool true) w := by kernel_rfl
theorem neq_codesF (n j : Int) (w : World) : (binOp .neq 28 (.iface 34 (.int .i64 n)) (.iface 34 (.int .i64 j))).run Try.prog w = .ok (.bool (!(n == j))) w := by kernel_rfl
theorem RdF.set2 {w0 W : World} {p gp : Nat} {av : Option Nat} {v got x : Value} {A : List UInt8} {gcs cs : List Value} (h : RdF w0 p av W v A got gcs x cs) (hav : av = some gp) (j : Nat) (u : Value) : RdF w0 p av (W.setCell ⟨gp, j, none⟩ u) v A got gcs x cs := by
  subst hav
  exact h.set j u
/-- End, by all that was given. -/
theorem end_of (p : Nat) (v : Value) (A : List UInt8) (w : World) (hR : RSt w p v A) (hl : A.length ≤ 1000000) (k : Nat) (hk : k = (frs A).2.1) :
    Calls Try.prog 11 #[.pointer (some ⟨p, 0, none⟩)] w fun e w' => e = .returned (errW k) ∧ w = w' := by
  have hr := frs_rest A
  refine (end_any p v _ _ w hR (by split; exact Nat.zero_le _; omega)).mono ?_
  rintro e w' ⟨rfl, rfl⟩
  refine ⟨?_, rfl⟩
  subst hk
  rcases frs_code A with ⟨h1, h2⟩ | ⟨h1, h2⟩ | ⟨h1, h2⟩
  · rw [h1]; simp [h2]
  · rw [h1]; simp [h2]
  · rw [h1]; simp
def ReR (w0 : World) (p : Nat) (n0 : Nat) (v5 v6 v7 : Value) (wr : World) : Prop :=
  ∃ (i : Nat) (A : List UInt8) (aa : Option Addr) (na ca : Nat) (ga : Option Addr) (gn gc : Nat) (gcs : List Value) (v : Value), v5 = .slice aa na ca ∧ v6 = .slice ga gn gc ∧ v7 = .int .i64 (i : Nat) ∧ i ≤ n0 ∧ Hid (RdS w0 p none wr v A (.slice ga gn gc) gcs) ∧ Hid (OB wr (p + 1) (.slice aa na ca) A) ∧ Hid (A.length ≤ 10000 * i)
def PcR (w0 : World) (p : Nat) (av : Option Nat) (z2 : Nat) (a2 : Option Addr) (nb : Nat) (v6 : Value) (A : List UInt8) (got : Value) (gcs : List Value) (x : Value) (cs : List Value) (all : Value) (v11 : Value) (wI : World) : Prop :=
  ∃ k : Nat, v11 = .int .i64 (k : Nat) ∧ k ≤ nb ∧ Hid (RdF w0 p av wI v6 A got gcs x cs) ∧ Hid (OB wI z2 all A) ∧ Hid (0 < nb → ∃ gp cur, a2 = some ⟨gp, 0, none⟩ ∧ av = some gp ∧ gp < z2 ∧ Bq wI gp 5 cur ∧ ∀ j, j < nb → ∃ x : Nat, x < 256 ∧ cur[j]? = some (.int .u8 (x : Int)))
set_option maxHeartbeats 8000000
set_option maxRecDepth 100000
theorem reads_any (a : Option Addr) (c : Nat) (lcs : List Value) (ls : List (List UInt8)) (w0 : World) (hA : CellsAt w0 (Old w0.heap.size) a lcs) (hL : FsV w0 (Old w0.heap.size) lcs ls) :
    Calls Try.prog 3 #[.slice a lcs.length c] w0 fun e w' => LawEnd w0 w' e := by
  obtain ⟨n, hn⟩ : ∃ n, n = lcs.length := ⟨_, rfl⟩
  have h63 : n ≤ 9223372036854775807 := by have := hA.1; unfold maxLen at this; omega
  have HA := Lib.hid hA
  have HL := Lib.hid hL
  have HN := Lib.hid hn
  have q0 := neq_ptr
  have q1 := neq_ptr2
  rw [← hn]
  clear hA hL hn
  go_enter Try.func3, Try.ntmps3
  go_wp2_with fail
  refine Calls.mono (up_any w0) ?_
  rintro e w1 ⟨rfl, hb1⟩
  have B1 := Lib.hid hb1
  clear hb1
  go_wp2_with fail
  refine Calls.mono (new_any w1) ?_
  rintro e w2 ⟨rfl, hf2, hb2⟩
  obtain ⟨p, hp⟩ : ∃ p, p = w1.heap.size := ⟨_, rfl⟩
  have R2 := Lib.hid (show RdS w0 p none w2 (.slice none 0 0) [] (.slice none 0 0) [] from RdS.new (by rw [hp]; exact hf2) (B1.out.trans (hb2.mono B1.out.size)) (by rw [hp]; exact B1.out.size))
  rw [← hp]
  clear hf2 hb2 hp
  by_cases h50 : (50 : Int) < (n : Int)
  · go_wp2_with fail
    go_ret
    exact ⟨rfl, R2.out.bel⟩
  go_wp2_with fail
  go_loopw [5, 6, 7] (fun v5 v6 v7 wr => ReR w0 p n v5 v6 v7 wr) (fun _ _ v7 _ => n - (intOf v7).toNat)
  case atStart => exact ⟨0, [], none, 0, 0, none, 0, 0, [], .slice none 0 0, rfl, rfl, rfl, Nat.zero_le _, R2, Lib.hid (OB.nil _ _), Lib.hid (by simp)⟩
  case round =>
    clear R2 B1
    obtain ⟨i, A, aa, na, ca, ga, gn, gc, gcs, v, rfl, rfl, rfl, hin, R, HO, HC⟩ := hrel
    by_cases hlt : i < n
    · have hlz : (i : Int) < (n : Int) := by omega
      have hil : i < ls.length := by rw [← HL.out.1, ← HN.out]; exact hlt
      obtain ⟨g, o, rfl, hg, hcl⟩ := HA.out.2 (by rw [← HN.out]; omega)
      obtain ⟨ai, ci, e1, hci, hbi⟩ := HL.out.2 i hil
      have d1 := (World.cell?_of_block (w := w0) (w' := wr) (a := ⟨g, o + i, none⟩) (R.out.bel.block g hg)).trans (hcl i _ e1)
      obtain ⟨b, hb⟩ : ∃ b, b = ls[i] := ⟨_, rfl⟩
      obtain ⟨nb, hnb⟩ : ∃ nb, nb = b.length := ⟨_, rfl⟩
      rw [← hb] at d1 hci hbi
      rw [← hnb] at d1 hci
      have HNB := Lib.hid hnb
      have HB := Lib.hid hbi
      clear hcl e1 hb hnb hbi hil
      by_cases hbig : (10000 : Int) < (nb : Int)
      · go_wp2_with fail
        go_ret
        exact ⟨rfl, R.out.bel⟩
      obtain ⟨w1, hw1⟩ : ∃ W0 : World, W0 = wr.alloc (.cells #[] 5) := ⟨_, rfl⟩
      have O1 := Lib.hid (show OB w1 wr.heap.size (.slice (some ⟨wr.heap.size, 0, none⟩) 0 0) [] by rw [hw1]; exact OB.fresh wr)
      have Z1 := Lib.hid (show Below wr.heap.size wr w1 by rw [hw1]; exact below_alloc _ _)
      have N1 := Lib.hid (show BytesAt w1 (Old w0.heap.size) ai b from HB.out.later (R.out.bel.trans (Z1.out.mono R.out.bel.size)))
      have HW1 := Lib.hid hw1
      obtain ⟨hna, hna2⟩ : na ≤ 500000 ∧ na = A.length := by have := HC.out; have := (OB.src HO.out).1; omega
      have HNA := Lib.hid hna2
      have dd := (World.cell?_of_block (w := wr) (w' := w1) (a := ⟨g, o + i, none⟩) (Z1.out.block g (Nat.lt_of_lt_of_le hg R.out.bel.size))).trans d1
      clear hna2
      have hnb5 : nb ≤ 10000 := by omega
      clear hw1
      go_wp2_with (first
        | (refine wpList_emptyB rfl rfl ?_; rw [← HW1.out])
        | (at_builtin; refine wpList_append_bytes rfl _ _ rfl wr.heap.size _ [] rfl O1.out ai nb ci b HNB.out rfl N1.out (by have := HNB.out; simp; omega) Z1.out.size ?_; intro v' w2 hrow2 hg2 hat2; obtain ⟨a2, n2, c2, e2⟩ := own_slice hrow2; subst e2
           have P2 := Lib.hid (show OB w2 wr.heap.size (.slice a2 n2 c2) b from hrow2)
           have Z2 := Lib.hid (show Below wr.heap.size wr w2 from below_grown Z1.out Z1.out.size hg2 (fun k hk => (O1.out.lt hk).1))
           obtain ⟨w3, hw3⟩ : ∃ W0 : World, W0 = w2.alloc (.cells #[] 5) := ⟨_, rfl⟩
           have O3 := Lib.hid (show OB w3 w2.heap.size (.slice (some ⟨w2.heap.size, 0, none⟩) 0 0) [] by rw [hw3]; exact OB.fresh w2)
           have Y3 := Lib.hid (show Below w2.heap.size w2 w3 by rw [hw3]; exact below_alloc _ _)
           have A3 := Lib.hid (OB.src (HO.out.later (Z2.out.trans (Y3.out.mono Z2.out.size)))).2.2
           have HW3 := Lib.hid hw3
           clear hrow2 hg2 hat2 hw3)
        | (refine wpList_emptyB rfl rfl ?_; rw [← HW3.out])
        | (at_builtin; refine wpList_append_bytes rfl _ _ rfl w2.heap.size _ [] rfl O3.out aa na ca A HNA.out rfl A3.out (by have := HNA.out; simp; omega) Y3.out.size ?_; intro v' w4 hrow4 hg4 hat4; obtain ⟨a4, n4, c4, e4⟩ := own_slice hrow4; subst e4
           have O4 := Lib.hid (show OB w4 w2.heap.size (.slice a4 n4 c4) A from hrow4)
           have Y4 := Lib.hid (show Below w2.heap.size w2 w4 from below_grown Y3.out Y3.out.size hg4 (fun k hk => (O3.out.lt hk).1))
           have P4 := Lib.hid (OB.src (P2.out.later Y4.out))
           clear hrow4 hg4 hat4)
        | (at_builtin; refine wpList_append_bytes rfl _ _ rfl w2.heap.size _ A rfl O4.out a2 n2 c2 b P4.out.1 rfl P4.out.2.2 (by have := HNA.out; have := HNB.out; omega) Y4.out.size ?_; intro v' w5 hrow5 hg5 hat5; obtain ⟨a5, n5, c5, e5⟩ := own_slice hrow5; subst e5
           have O5 := Lib.hid hrow5
           have Y5 := Lib.hid (show Below w2.heap.size w2 w5 from below_grown Y4.out Y4.out.size hg5 (fun k hk => (O4.out.lt hk).1))
           have P5 := Lib.hid (P2.out.later Y5.out)
           clear hrow5 hg5 hat5))
      obtain ⟨av, hav⟩ : ∃ av, av = (Value.slice a2 n2 c2).ownBlock := ⟨_, rfl⟩
      have PL := Lib.hid (show ∀ k, av = some k → wr.heap.size ≤ k ∧ k < w2.heap.size from fun k e => P2.out.lt (by rw [← hav]; exact e))
      have Z5 := Lib.hid (show Below wr.heap.size wr w5 from Z2.out.trans (Y5.out.mono Z2.out.size))
      have R5 := Lib.hid (show RdS w0 p av w5 v A (.slice ga gn gc) gcs from R.out.later Z5.out (fun k e => (PL.out k e).1))
      have VL := Lib.hid (show p < wr.heap.size ∧ ∀ k, v.ownBlock = some k → k < wr.heap.size from ⟨FrAt.lt R.out.rd, fun k e => (FrAt.own R.out.rd e).2⟩)
      obtain ⟨hn2, hc2, hb2⟩ := own_bytes P5.out
      have CF := Lib.hid (feed_any p v A a2 c2 b w5 R5.out.rd hb2 hc2 (fun g hg => by
        rw [← hav] at hg
        obtain ⟨l1, l2⟩ := PL.out g hg
        have := VL.out.1
        refine ⟨by have := Y5.out.size; omega, by omega, fun e => ?_⟩
        have := VL.out.2 g e.symm
        omega) (by have := HNA.out; have := HNB.out; rw [List.length_append]; omega))
      have HN2 := Lib.hid hn2
      have HAV := Lib.hid hav
      rw [← HN2.out] at CF
      clear hn2 hc2 hb2 hav
      go_wp2_with fail
      refine Calls.mono CF.out ?_
      rintro e w6 ⟨ta, tn, tc, cs, T, v6, rfl, h1, h2, h3, h4, h5⟩
      have R6 := Lib.hid (show RdF w0 p av w6 v6 (A ++ b) (.slice ga gn gc) gcs (.slice ta tn tc) cs from R5.out.fed (fun k e => by
        obtain ⟨l1, l2⟩ := PL.out k e
        have := VL.out.1
        refine ⟨by have := Y5.out.size; omega, fun e2 => ?_, by omega⟩
        have := VL.out.2 k e2
        omega) h1 h2 h3 h4 h5)
      have K6 := Lib.hid (show ∀ g, wr.heap.size ≤ g → g < w5.heap.size → w6.heap[g]? = w5.heap[g]? from fun g l1 l2 => h5.block g l2 (by have := VL.out.1; omega) (fun e => by have := VL.out.2 g e.symm; omega))
      have L6 := Lib.hid (show w2.heap.size ≤ w6.heap.size from Nat.le_trans Y5.out.size h5.size)
      have O6 := Lib.hid (O5.out.keep (V := w6) fun g e => K6.out g (Nat.le_trans Z2.out.size (O5.out.lt e).1) (O5.out.lt e).2)
      have P6 := Lib.hid (P5.out.keep (V := w6) fun g e => K6.out g (P5.out.lt e).1 (P5.out.lt e).2)
      have I6 := Lib.hid (show PcR w0 p av w2.heap.size a2 nb v6 (A ++ b) (.slice ga gn gc) gcs (.slice ta tn tc) cs (.slice a5 n5 c5) (.int .i64 0) w6 from ⟨0, rfl, Nat.zero_le _, R6, O6, Lib.hid fun h0 => by
        obtain ⟨gp, cur, e1, l1, l2, l3, l4⟩ := OB.row P6.out (by rw [← HNB.out]; exact h0)
        have hav2 : av = some gp := by rw [HAV.out, e1]; rfl
        exact ⟨gp, cur, e1, hav2, (PL.out gp hav2).2, l3, fun j hj => l4 j (by rw [← HNB.out]; exact hj)⟩⟩)
      have HN2' := Lib.hid (show n2 = nb by rw [HN2.out, HNB.out])
      obtain ⟨kd, hkd⟩ : ∃ kd, kd = (frs (A ++ b)).2.1 := ⟨_, rfl⟩
      have HKD := Lib.hid hkd
      rw [← hkd]
      have HE2 := HN2'.out
      subst HE2
      clear h1 h2 h3 h4 h5 hkd HN2'
      go_wp2_with fail
      go_loopw [11] (fun v11 wI => PcR w0 p av w2.heap.size a2 n2 v6 (A ++ b) (.slice ga gn gc) gcs (.slice ta tn tc) cs (.slice a5 n5 c5) v11 wI) (fun v11 _ => n2 - (intOf v11).toNat)
      case atStart => exact I6.out
      case round =>
        obtain ⟨k, rfl, hkn, RI, OI, PI⟩ := hrel
        by_cases hk : k < n2
        · have hkz : (k : Int) < (n2 : Int) := by omega
          obtain ⟨gp, cur, rfl, hav2, hgz, hbq, hcu⟩ := PI.out (by omega)
          obtain ⟨x, hx, hxc⟩ := hcu k hk
          obtain ⟨y, hy, hy2⟩ : ∃ y : Nat, IntKind.u8.wrap ((x : Int) + 1) = (y : Int) ∧ y < 256 := by
            rw [IntKind.wrap_u8]
            exact ⟨(((x : Int) + 1) % 256).toNat, by omega, by omega⟩
          have d2 : wr.cell? ⟨gp, k, none⟩ = some (.int .u8 (x : Int)) := by
            have := hbq
            unfold Bq at this
            simp [World.cell?, this, hxc]
          have d3 := hbq.fr k
          have BQ := Lib.hid hbq
          have CU := Lib.hid hcu
          have HY := Lib.hid hy
          clear hbq hcu hy hxc
          have hy := HY.out
          go_wp2_with fail
          go_roundw
          case rel => exact ⟨k + 1, by go_num, by omega, Lib.hid (RI.out.set2 hav2 k _), Lib.hid (OI.out.keep fun g e => Below.heap_setCell _ _ _ _ (by have := (OI.out.lt e).1; show g ≠ gp; omega)), Lib.hid fun _ => ⟨gp, cur.setIfInBounds k (.int .u8 (y : Int)), rfl, hav2, hgz, BQ.out.set k _, fun j hj => by
              obtain ⟨x2, l1, l2⟩ := CU.out j hj
              by_cases hjk : j = k
              · subst hjk
                exact ⟨y, hy2, by
                  rw [Array.getElem?_setIfInBounds_self_of_lt]
                  exact (Array.getElem?_eq_some_iff.1 l2).1⟩
              · exact ⟨x2, l1, by rw [Array.getElem?_setIfInBounds_ne (Ne.symm hjk)]; exact l2⟩⟩⟩
          case measure => simp [intOf]; omega
        · have hkz : ¬ (k : Int) < (n2 : Int) := by omega
          clear PI K6 P6 I6 R6 O6
          have HLN := Lib.hid (show (A ++ b).length ≤ 510000 by have := HNA.out; have := HNB.out; rw [List.length_append]; omega)
          have HLG := Lib.hid (show gcs.length + cs.length ≤ 510000 by have h1 := RI.out.fr.1; have := frs_count (A ++ b); have := HLN.out; rw [List.length_append] at h1; omega)
          have ONE := Lib.hid (show ∀ u ∈ gcs ++ cs, u.oneCell' = true from RI.out.fr.one')
          obtain ⟨w7, hw7⟩ : ∃ W0 : World, W0 = wr.alloc (.cells #[] 26) := ⟨_, rfl⟩
          have S7 := Lib.hid (show OS w7 wr.heap.size (.slice (some ⟨wr.heap.size, 0, none⟩) 0 0) [] by rw [hw7]; exact OS.fresh wr)
          have Z7 := Lib.hid (show Below wr.heap.size wr w7 by rw [hw7]; exact below_alloc _ _)
          have G7 := Lib.hid (RI.out.go.later Z7.out).src
          have HW7 := Lib.hid hw7
          clear hw7
          go_wp2_with (first
            | (refine wpList_emptyS rfl rfl ?_; rw [← HW7.out])
            | (at_builtin; refine wpList_append_slices rfl _ _ rfl wr.heap.size _ [] rfl S7.out ga gn gc gcs G7.out.1 rfl G7.out.2 (fun u hu => ONE.out u (List.mem_append_left _ hu)) (by have := HLG.out; simp; omega) Z7.out.size ?_; intro v' w8 hrow8 hg8 hat8; obtain ⟨a8, n8, c8, e8⟩ := own_slice hrow8; subst e8
               have S8 := Lib.hid (show OS w8 wr.heap.size (.slice a8 n8 c8) gcs from hrow8)
               have Z8 := Lib.hid (show Below wr.heap.size wr w8 from below_grown Z7.out Z7.out.size hg8 (fun k hk => (S7.out.lt hk).1))
               have G8 := Lib.hid (RI.out.xs.later Z8.out).src
               clear hrow8 hg8 hat8)
            | (at_builtin; refine wpList_append_slices rfl _ _ rfl wr.heap.size _ gcs rfl S8.out ta tn tc cs G8.out.1 rfl G8.out.2 (fun u hu => ONE.out u (List.mem_append_right _ hu)) (by have := HLG.out; omega) Z8.out.size ?_; intro v' w9 hrow9 hg9 hat9; obtain ⟨a9, n9, c9, e9⟩ := own_slice hrow9; subst e9
               have S9 := Lib.hid hrow9
               have Z9 := Lib.hid (show Below wr.heap.size wr w9 from below_grown Z8.out Z8.out.size hg9 (fun k hk => (S8.out.lt hk).1))
               clear hrow9 hg9 hat9))
          have R9 := Lib.hid (RI.out.done (Nat.le_refl _) S9.out Z9.out)
          have O9 := Lib.hid (OI.out.later Z9.out)
          have CR := Lib.hid (frames_any a5 c5 (A ++ b) (by have := HLN.out; omega) (OB.src O9.out).2.1 w9 (OB.src O9.out).2.2)
          rw [← (OB.src O9.out).1] at CR
          refine Calls.mono CR.out ?_
          rintro e w10 ⟨da, dn, dc, ds, rfl, hs10, hf10, hb10⟩
          rw [← HKD.out]
          have R10 := Lib.hid (R9.out.later (av := none) hb10 (fun k e => by cases e))
          have O10 := Lib.hid (O9.out.later hb10)
          have CW := Lib.hid (whole_any a9 c9 (gcs ++ cs) (frs (A ++ b)).1 da dc ds (frs (A ++ b)).1 w10 R10.out.go.src.2 (R10.out.fr.far fun g hg => ⟨hg.1, rfl⟩) hs10.src.2 (hf10.far fun g hg => ⟨Nat.lt_of_lt_of_le hg hb10.size, hb10.block g hg⟩))
          rw [← R10.out.go.src.1, ← hs10.src.1, decide_eq_true (rfl : (frs (A ++ b)).1 = (frs (A ++ b)).1)] at CW
          clear hs10 hf10 hb10 CR
          have HCD := Lib.hid (show kd = 0 ∨ kd = 6 ∨ kd = 5 by rw [HKD.out]; rcases frs_code (A ++ b) with ⟨h, -⟩ | ⟨h, -⟩ | ⟨h, -⟩ <;> simp [h])
          rcases HCD.out with rfl | rfl | rfl
          · rw [show errF 0 = .nilIface from rfl]
            clear HCD
            go_wp2_with fail
            refine Calls.mono CW.out ?_
            rintro e w11 ⟨rfl, hb11⟩
            have R11 := Lib.hid (R10.out.later (av := none) hb11 (fun k e => by cases e))
            have O11 := Lib.hid (O10.out.later hb11)
            have CE := Lib.hid (show Calls Try.prog 11 #[.pointer (some ⟨p, 0, none⟩)] w11 fun e w' => e = .returned (.nilIface) ∧ w11 = w' from end_of p v6 (A ++ b) w11 R11.out.rd (by have := HLN.out; omega) 0 HKD.out)
            clear hb11
            have q5 := neq_nil
            have q6 := Cn.nil_nil
            go_wp2_with fail
            refine Calls.mono CE.out ?_
            rintro e w12 ⟨rfl, rfl⟩
            go_wp2_with fail
            refine Calls.mono (Cn.code_nil w11) ?_
            rintro e w13 ⟨rfl, rfl⟩
            go_wp2_with fail
            go_roundw
            case rel => exact ⟨i + 1, A ++ b, a5, n5, c5, a9, n9, c9, gcs ++ cs, v6, rfl, rfl, by go_num, by omega, R11, Lib.hid (O11.out.mono (by have := VL.out.1; have := Z2.out.size; omega)), Lib.hid (by have := HC.out; have := HNB.out; rw [List.length_append]; omega)⟩
            case measure => simp [intOf]; omega
          · rw [show errF 6 = .nilIface from rfl]
            clear HCD
            go_wp2_with fail
            refine Calls.mono CW.out ?_
            rintro e w11 ⟨rfl, hb11⟩
            have R11 := Lib.hid (R10.out.later (av := none) hb11 (fun k e => by cases e))
            have O11 := Lib.hid (O10.out.later hb11)
            have CE := Lib.hid (show Calls Try.prog 11 #[.pointer (some ⟨p, 0, none⟩)] w11 fun e w' => e = .returned (.iface 34 (.int .i64 6)) ∧ w11 = w' from end_of p v6 (A ++ b) w11 R11.out.rd (by have := HLN.out; omega) 6 HKD.out)
            clear hb11
            have q5 := neq_nil
            have q6 := Cn.nil_nil
            go_wp2_with fail
            refine Calls.mono CE.out ?_
            rintro e w12 ⟨rfl, rfl⟩
            go_wp2_with fail
            refine Calls.mono (Cn.code_any 6 (by omega) (by omega) w11) ?_
            rintro e w13 ⟨rfl, rfl⟩
            go_wp2_with fail
            go_roundw
            case rel => exact ⟨i + 1, A ++ b, a5, n5, c5, a9, n9, c9, gcs ++ cs, v6, rfl, rfl, by go_num, by omega, R11, Lib.hid (O11.out.mono (by have := VL.out.1; have := Z2.out.size; omega)), Lib.hid (by have := HC.out; have := HNB.out; rw [List.length_append]; omega)⟩
            case measure => simp [intOf]; omega
          · rw [show errF 5 = .iface 34 (.int .i64 5) from rfl]
            clear HCD
            go_wp2_with fail
            refine Calls.mono CW.out ?_
            rintro e w11 ⟨rfl, hb11⟩
            have R11 := Lib.hid (R10.out.later (av := none) hb11 (fun k e => by cases e))
            have O11 := Lib.hid (O10.out.later hb11)
            have CE := Lib.hid (show Calls Try.prog 11 #[.pointer (some ⟨p, 0, none⟩)] w11 fun e w' => e = .returned (.iface 34 (.int .i64 5)) ∧ w11 = w' from end_of p v6 (A ++ b) w11 R11.out.rd (by have := HLN.out; omega) 5 HKD.out)
            clear hb11
            have q5 := neq_err 5
            have q6 := neq_codesF
            go_wp2_with fail
            refine Calls.mono CE.out ?_
            rintro e w12 ⟨rfl, rfl⟩
            go_wp2_with fail
            refine Calls.mono (Cn.code_any 5 (by omega) (by omega) w11) ?_
            rintro e w13 ⟨rfl, rfl⟩
            go_wp2_with fail
            go_roundw
            case rel => exact ⟨i + 1, A ++ b, a5, n5, c5, a9, n9, c9, gcs ++ cs, v6, rfl, rfl, by go_num, by omega, R11, Lib.hid (O11.out.mono (by have := VL.out.1; have := Z2.out.size; omega)), Lib.hid (by have := HC.out; have := HNB.out; rw [List.length_append]; omega)⟩
            case measure => simp [intOf]; omega
    · have hlz : ¬ (i : Int) < (n : Int) := by omega
      go_wp2_with fail
      go_ret
      exact ⟨rfl, R.out.bel⟩
end Go.Proofs.Ythoajnpdnagdbaa.Fr
