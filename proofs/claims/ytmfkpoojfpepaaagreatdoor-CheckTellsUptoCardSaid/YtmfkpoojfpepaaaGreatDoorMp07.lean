/-
  Contract of the document's answer number behind a -: the number at a place of a text, and where it ends. Memory is left as it was.
-/
import Derived.Test.YtmfkpoojfpepaaaGreatDoorMp03
import Derived.Test.YtmfkpoojfpepaaaGreatDoorMp05
/-
  Contract of the document's answer number: the number at a place of a text, and where it ends. Memory is left as it was.
-/
namespace Go.Proofs.YtmfkpoojfpepaaaGreatDoor.Tk
open Go.RowKit
set_option linter.unusedVariables false
set_option linter.unusedSimpArgs false

/-- What has been read so far: its value, or that it is beyond 2^63. -/
def NumI (D : List UInt8) (k nn : Nat) (bb : Bool) : Prop := bb = decide (9223372036854775808 < decV (D.take k)) ∧ (bb = false → nn = decV (D.take k))
theorem NumI.start (D : List UInt8) : NumI D 0 0 false := ⟨rfl, fun _ => rfl⟩
theorem NumI.next {D : List UInt8} {k nn : Nat} {bb : Bool} {d : UInt8} (h : NumI D k nn bb) (hd : D[k]? = some d) (hg : dig d = true) :
    NumI D (k + 1) ((10 * nn + (d.toNat - 48)) % 18446744073709551616) (bb || decide (922337203685477580 < nn) || (decide (nn = 922337203685477580) && decide (56 < d.toNat))) := by
  simp only [dig, Bool.and_eq_true, decide_eq_true_eq] at hg
  have e : D.take (k + 1) = D.take k ++ [d] := by rw [List.take_add_one, hd]; rfl
  unfold NumI
  rw [e, decV_snoc]
  obtain ⟨h1, h2⟩ := h
  cases bb with
  | true =>
    have h3 := of_decide_eq_true h1.symm
    refine ⟨?_, fun h => by simp at h⟩
    have h5 : 9223372036854775808 < decV (D.take k) * 10 + (d.toNat - 48) := by omega
    rw [decide_eq_true h5]
    simp
  | false =>
    have h3 := of_decide_eq_false h1.symm
    have h4 := h2 rfl
    rw [← h4] at h3 ⊢
    refine ⟨?_, fun h => ?_⟩
    · rw [Bool.false_or, Bool.eq_iff_iff]
      simp only [Bool.or_eq_true, Bool.and_eq_true, decide_eq_true_eq]
      omega
    · simp only [Bool.false_or, Bool.or_eq_false_iff, Bool.and_eq_false_iff, decide_eq_false_iff_not] at h
      omega
/-- Between the rounds: so far k digits of D, which begins at f, have been read. -/
def NumR (D : List UInt8) (f : Nat) (w : World) (va vn vb : Value) (wr : World) : Prop :=
  ∃ (p k nn : Nat) (bb : Bool), va = .int .i64 (p : Nat) ∧ vn = .int .u64 (nn : Nat) ∧ vb = .bool bb ∧ Hid (p = f + k ∧ k ≤ D.length ∧ nn < 18446744073709551616) ∧
    Hid (∀ (j : Nat) (c : UInt8), j < k → D[j]? = some c → dig c = true) ∧ Hid (NumI D k nn bb) ∧ w = wr
theorem all_more {p : UInt8 → Bool} {l : List UInt8} {k : Nat} {c : UInt8} (h : ∀ (j : Nat) (c : UInt8), j < k → l[j]? = some c → p c = true) (hc : l[k]? = some c) (hp : p c = true) : ∀ (j : Nat) (c : UInt8), j < k + 1 → l[j]? = some c → p c = true := by
  intro j d hj hd
  by_cases e : j = k
  · subst e
    rw [hc] at hd
    cases hd
    exact hp
  · exact h j d (by omega) hd
/-- What the rows of digits come to. -/
theorem dec_one {l : List UInt8} {d : UInt8} (h0 : l.head? = some d) (h1 : l.length = 1) : decV l = d.toNat - 48 := by
  match l, h0, h1 with
  | [x], h0, _ =>
    simp at h0
    subst h0
    unfold decV
    rw [decA_cons, decA_nil]
    omega
theorem dec_pos {l : List UInt8} {d : UInt8} (h0 : l.head? = some d) (hd : 49 ≤ d.toNat) : 1 ≤ decV l := by
  match l, h0 with
  | x :: r, h0 =>
    simp at h0
    subst h0
    unfold decV
    rw [decA_cons]
    exact Nat.le_trans (by omega) (decA_ge r _)
theorem digs_mem {l : List UInt8} {d : UInt8} (h : (digs l).head? = some d) : dig d = true := take_run_all dig l d (List.mem_of_mem_head? h)

set_option maxRecDepth 100000 in
set_option maxHeartbeats 8000000 in
theorem refNum_plain (s : ByteArray) (hs : s.size ≤ 500) (a : Nat) (c : UInt8) (r : List UInt8) (hL : s.data.toList.drop a = c :: r) (hc : ¬ c.toNat = 45) (w : World) :
    Calls Tryz.prog 77 #[.string s, .int .i64 (a : Nat)] w fun e w' => NumEnd a e (numL (c :: r)) ∧ w = w' := by
  have hlen : a + (r.length + 1) = s.size := by
    have : (s.data.toList.drop a).length = (c :: r).length := by rw [hL]
    rw [List.length_drop, ← Lib.size_eq] at this
    simp only [List.length_cons] at this
    omega
  have halt : a < s.size := by omega
  have haz : (a : Int) < (s.size : Int) := by omega
  have hb0 : s[a] = c := by
    have h1 := Lib.data_getElem? s a halt
    have h2 : (s.data.toList.drop a)[0]? = some c := by rw [hL]; rfl
    rw [List.getElem?_drop, Nat.add_zero] at h2
    exact Option.some.inj (h1.symm.trans h2)
  have hcz : ¬ ((c.toNat : Nat) : Int) = 45 := by omega
  have hcb : (((c.toNat : Nat) : Int) == 45) = false := by rw [beq_eq_false_iff_ne]; exact hcz
  obtain ⟨D, hD⟩ : ∃ D, D = c :: r := ⟨_, rfl⟩
  have HDR := Lib.hid (show s.data.toList.drop a = D by rw [hD, hL])
  have HDL := Lib.hid (show a + D.length = s.size by rw [hD]; simp only [List.length_cons]; omega)
  have HNL := Lib.hid (show numL (c :: r) = if digs D = [] ∨ (1 < (digs D).length ∧ (digs D).head? = some 48) ∨ 9223372036854775808 ≤ decV (digs D) then none else some ⟨3, decV (digs D), [], (digs D).length⟩ by rw [hD, numL_cons, if_neg (fun h => hc (eq_of_beq h))])
  have H5 := Lib.hid hs
  clear hL hlen hc hD hs
  go_enter Tryz.func77, Tryz.ntmps77
  go_wp2_with fail
  go_loopw [1, 9, 10] (fun va vn vb wr => NumR D a w va vn vb wr) (fun va _ _ _ => s.size - natOf va)
  case atStart => exact ⟨a, 0, 0, false, rfl, rfl, rfl, Lib.hid ⟨rfl, Nat.zero_le _, by omega⟩, Lib.hid (fun j c h => absurd h (Nat.not_lt_zero _)), Lib.hid (NumI.start D), rfl⟩
  case round =>
    obtain ⟨p, k, nn, bb, rfl, rfl, rfl, hpk, hall, hbb, rfl⟩ := hrel
    have HP := hpk.out
    by_cases hlt : p < s.size
    · have hlz : (p : Int) < (s.size : Int) := by omega
      obtain ⟨d, hd⟩ : ∃ d, s[p] = d := ⟨_, rfl⟩
      have HDK := Lib.hid (show D[k]? = some d by
        have h1 := Lib.data_getElem? s p hlt
        rw [hd] at h1
        rw [← HDR.out, List.getElem?_drop, ← HP.1]
        exact h1)
      obtain ⟨g, hg⟩ : ∃ g, dig d = g := ⟨_, rfl⟩
      have HG := Lib.hid hg
      cases g
      · have hrun := run_eq dig D k HP.2.1 hall.out (fun e he => by have := HDK.out.symm.trans he; cases this; exact HG.out)
        clear HP hg
        have hdl : (digs D).length = k := by rw [digs_len, hrun]
        have hdt : D.take k = digs D := by unfold digs; rw [hrun]
        have HI := hbb.out
        unfold NumI at HI
        rw [hdt] at HI
        have HP := hpk.out
        clear hrun hdt
        rcases Nat.eq_zero_or_pos k with hk0 | hkp
        · have hnil : digs D = [] := List.length_eq_zero_iff.1 (by omega)
          have HR := Lib.hid (show numL (c :: r) = none by rw [HNL.out, if_pos (Or.inl hnil)])
          have z1 : ((p : Int) == (a : Int)) = true := by rw [beq_iff_eq]; omega
          clear HI HP hnil hdl hk0
          go_wp2_with fail
          refine (refDigit_any d _).mono ?_
          rintro e w1 ⟨rfl, rfl⟩
          rw [HG.out]
          go_wp2_with fail
          refine bodyPost_ret (v := .tuple #[.int .i64 0, .int .i64 (p : Nat), .bool false]) (by simp [results, Tryz.results77, go_sem]) rfl ⟨?_, rfl⟩
          rw [HR.out]
          exact ⟨0, (p : Nat), rfl⟩
        · have z1 : ((p : Int) == (a : Int)) = false := by rw [beq_eq_false_iff_ne]; omega
          have hfs : a < s.size := by have := HDL.out; omega
          have hfz3 : (a : Int) < (s.size : Int) := by omega
          have hd0 : s[a] = c := hb0
          have hh : (digs D).head? = some c := by
            have h1 := Lib.data_getElem? s a hfs
            rw [hd0] at h1
            unfold digs
            rw [List.head?_take, if_neg (by rw [digs_len] at hdl; omega), ← HDR.out, List.head?_drop]
            exact h1
          have hgd : dig c = true := digs_mem hh
          have hgb : 48 ≤ c.toNat ∧ c.toNat ≤ 57 := by simpa only [dig, Bool.and_eq_true, decide_eq_true_eq] using hgd
          have hk6 : k ≤ 1000000 := by have := H5.out; have := HDL.out; omega
          have Z2 := Lib.hid (wrap_sub HP.1 hk6)
          have z2b : (p : Int) - (a : Int) = (k : Int) := sub_is HP.1
          have Z2C := Lib.hid (wrap_small k hk6)
          have hne : digs D ≠ [] := fun e => by rw [e] at hh; simp at hh
          by_cases h48 : c = 48
          · have z4 : ((c.toNat : Nat) : Int) = 48 := by rw [h48]; rfl
            by_cases h1 : 1 < k
            · have z3 : (1 : Int) < (k : Int) := by omega
              have HR := Lib.hid (show numL (c :: r) = none by rw [HNL.out, if_pos (Or.inr (Or.inl ⟨by omega, by rw [hh, h48]⟩))])
              clear HI HP hne hdl hgb hgd hh h48 h1 hkp
              have z2 := Z2.out
              have z2c := Z2C.out
              go_wp2_with fail
              refine (refDigit_any d _).mono ?_
              rintro e w1 ⟨rfl, rfl⟩
              rw [HG.out]
              go_wp2_with fail
              refine bodyPost_ret (v := .tuple #[.int .i64 0, .int .i64 (p : Nat), .bool false]) (by simp [results, Tryz.results77, go_sem]) rfl ⟨?_, rfl⟩
              rw [HR.out]
              exact ⟨0, (p : Nat), rfl⟩
            · have z3 : ¬ (1 : Int) < (k : Int) := by omega
              have hV : decV (digs D) = 0 := by rw [dec_one hh (by omega), h48]; rfl
              rw [hV] at HI
              obtain ⟨e1, e2⟩ := HI
              obtain rfl : bb = false := by rw [e1]; rfl
              obtain rfl : nn = 0 := e2 rfl
              have HR := Lib.hid (show numL (c :: r) = some ⟨3, 0, [], k⟩ by rw [HNL.out, if_neg, hV, hdl]; rfl; rintro (x | x | x); exact hne x; omega; omega)
              have HPF := Lib.hid (show p = a + k from HP.1)
              clear e1 e2 HP hne hdl hgb hgd hh h48 h1 hkp hV
              have z2 := Z2.out
              have z2c := Z2C.out
              go_wp2_with fail
              refine (refDigit_any d _).mono ?_
              rintro e w1 ⟨rfl, rfl⟩
              rw [HG.out]
              go_wp2_with fail
              refine bodyPost_ret (v := .tuple #[.int .i64 0, .int .i64 (p : Nat), .bool true]) (by simp [results, Tryz.results77, go_sem]) rfl ⟨?_, rfl⟩
              rw [HR.out, HPF.out]
              exact rfl
          · have z4 : ¬ ((c.toNat : Nat) : Int) = 48 := fun e => h48 (UInt8.toNat_inj.1 (show c.toNat = 48 by omega))
            have hV := dec_pos hh (by omega)
            obtain ⟨V, hVe⟩ : ∃ V, V = decV (digs D) := ⟨_, rfl⟩
            rw [← hVe] at HI hV
            have z3 : 0 = 0 := rfl
            by_cases hbig : 9223372036854775808 < V
            · obtain rfl : bb = true := by rw [HI.1]; exact decide_eq_true hbig
              have HR := Lib.hid (show numL (c :: r) = none by rw [HNL.out, if_pos (Or.inr (Or.inr (by rw [← hVe]; omega)))])
              clear HI HP hne hdl hgb hgd hh h48 hkp hV hVe hbig
              by_cases h1 : (1 : Int) < (k : Int)
              · have z2 := Z2.out
                have z2c := Z2C.out
                go_wp2_with fail
                refine (refDigit_any d _).mono ?_
                rintro e w1 ⟨rfl, rfl⟩
                rw [HG.out]
                go_wp2_with fail
                refine bodyPost_ret (v := .tuple #[.int .i64 0, .int .i64 (p : Nat), .bool false]) (by simp [results, Tryz.results77, go_sem]) rfl ⟨?_, rfl⟩
                rw [HR.out]
                exact ⟨0, (p : Nat), rfl⟩
              · have z2 := Z2.out
                have z2c := Z2C.out
                go_wp2_with fail
                refine (refDigit_any d _).mono ?_
                rintro e w1 ⟨rfl, rfl⟩
                rw [HG.out]
                go_wp2_with fail
                refine bodyPost_ret (v := .tuple #[.int .i64 0, .int .i64 (p : Nat), .bool false]) (by simp [results, Tryz.results77, go_sem]) rfl ⟨?_, rfl⟩
                rw [HR.out]
                exact ⟨0, (p : Nat), rfl⟩
            · obtain rfl : bb = false := by rw [HI.1]; exact decide_eq_false hbig
              obtain rfl : nn = V := HI.2 rfl
              by_cases h63 : nn = 9223372036854775808
              · have HR := Lib.hid (show numL (c :: r) = none by rw [HNL.out, if_pos (Or.inr (Or.inr (by rw [← hVe]; omega)))])
                have y1 : ((nn : Int) == 9223372036854775808) = true := by rw [beq_iff_eq]; omega
                clear HI HP hne hdl hgb hgd hh h48 hkp hV hVe hbig h63
                by_cases h1 : (1 : Int) < (k : Int)
                · have z2 := Z2.out
                  have z2c := Z2C.out
                  go_wp2_with fail
                  refine (refDigit_any d _).mono ?_
                  rintro e w1 ⟨rfl, rfl⟩
                  rw [HG.out]
                  go_wp2_with fail
                  refine bodyPost_ret (v := .tuple #[.int .i64 0, .int .i64 (p : Nat), .bool false]) (by simp [results, Tryz.results77, go_sem]) rfl ⟨?_, rfl⟩
                  rw [HR.out]
                  exact ⟨0, (p : Nat), rfl⟩
                · have z2 := Z2.out
                  have z2c := Z2C.out
                  go_wp2_with fail
                  refine (refDigit_any d _).mono ?_
                  rintro e w1 ⟨rfl, rfl⟩
                  rw [HG.out]
                  go_wp2_with fail
                  refine bodyPost_ret (v := .tuple #[.int .i64 0, .int .i64 (p : Nat), .bool false]) (by simp [results, Tryz.results77, go_sem]) rfl ⟨?_, rfl⟩
                  rw [HR.out]
                  exact ⟨0, (p : Nat), rfl⟩
              · have HR := Lib.hid (show numL (c :: r) = some ⟨3, (nn : Int), [], k⟩ by
                  rw [HNL.out, if_neg, ← hVe, hdl]
                  rintro (x | x | x)
                  · exact hne x
                  · have x2 := x.2; rw [hh] at x2; exact h48 (Option.some.inj x2)
                  · omega)
                have HPF := Lib.hid (show p = a + k from HP.1)
                have y1 : ((nn : Int) == 9223372036854775808) = false := by rw [beq_eq_false_iff_ne]; omega
                have HY := Lib.hid (pos_facts (show nn < 9223372036854775808 by omega))
                clear HI HP hne hdl hgb hgd hh h48 hkp hV hVe hbig h63
                by_cases h1 : (1 : Int) < (k : Int)
                · obtain ⟨y3, y4⟩ := HY.out
                  have z2 := Z2.out
                  have z2c := Z2C.out
                  go_wp2_with fail
                  refine (refDigit_any d _).mono ?_
                  rintro e w1 ⟨rfl, rfl⟩
                  rw [HG.out]
                  go_wp2_with fail
                  refine bodyPost_ret (v := .tuple #[.int .i64 (nn : Int), .int .i64 (p : Nat), .bool true]) (by simp [results, Tryz.results77, go_sem]) rfl ⟨?_, rfl⟩
                  rw [HR.out, HPF.out]
                  exact rfl
                · obtain ⟨y3, y4⟩ := HY.out
                  have z2 := Z2.out
                  have z2c := Z2C.out
                  go_wp2_with fail
                  refine (refDigit_any d _).mono ?_
                  rintro e w1 ⟨rfl, rfl⟩
                  rw [HG.out]
                  go_wp2_with fail
                  refine bodyPost_ret (v := .tuple #[.int .i64 (nn : Int), .int .i64 (p : Nat), .bool true]) (by simp [results, Tryz.results77, go_sem]) rfl ⟨?_, rfl⟩
                  rw [HR.out, HPF.out]
                  exact rfl
      · have HP1 := Lib.hid (show p + 1 = a + (k + 1) ∧ k + 1 ≤ D.length by have := HDL.out; omega)
        have HX5 := Lib.hid (wrap_succ p (by have := H5.out; omega))
        clear HP
        have hdd : 48 ≤ d.toNat ∧ d.toNat ≤ 57 := by simpa only [dig, Bool.and_eq_true, decide_eq_true_eq] using hg
        have HN := Lib.hid (hbb.out.next HDK.out HG.out)
        obtain ⟨p1, hp1⟩ : ∃ p1 : Int, p1 = (10 * (nn : Int)) % 18446744073709551616 := ⟨_, rfl⟩
        obtain ⟨d1, hd1⟩ : ∃ d1 : Int, d1 = ((d.toNat : Nat) : Int) - 48 := ⟨_, rfl⟩
        obtain ⟨q1, hq1⟩ : ∃ q1 : Nat, q1 = (10 * nn + (d.toNat - 48)) % 18446744073709551616 := ⟨_, rfl⟩
        have X1 := Lib.hid (show IntKind.u64.wrap (10 * (nn : Int)) = p1 by rw [IntKind.wrap_u64, hp1])
        have X2 := Lib.hid (num_x2 hdd hd1)
        have X3 := Lib.hid (num_x3 hdd hd1)
        have X4 := Lib.hid (num_x4 hdd hd1 hp1 hq1)
        have HQ := Lib.hid (show q1 < 18446744073709551616 by rw [hq1]; exact Nat.mod_lt _ (by decide))
        rw [← hq1] at HN
        clear hp1 hd1 hq1
        cases bb with
        | true =>
          have HNb := Lib.hid (show NumI D (k + 1) q1 true from HN.out)
          clear hdd
          have x5 := HX5.out
          have x1 := X1.out
          have x2 := X2.out
          have x3 := X3.out
          have x4 := X4.out
          go_wp2_with fail
          refine (refDigit_any d _).mono ?_
          rintro e w1 ⟨rfl, rfl⟩
          rw [HG.out]
          go_wp2_with fail
          clear x1 x2 x3 x4 x5
          go_roundw
          case rel => first | exact ⟨p + 1, k + 1, q1, true, by first | exact congrArg (Value.int .i64) HX5.out | rfl | simp, rfl, by first | rfl | simp [*], Lib.hid ⟨HP1.out.1, HP1.out.2, HQ.out⟩, Lib.hid (all_more hall.out HDK.out HG.out), HNb, rfl⟩ | ((repeat apply Exists.intro); exact ⟨⟨p + 1, k + 1, q1, true, by first | exact congrArg (Value.int .i64) HX5.out | rfl | simp, rfl, by first | rfl | simp [*], Lib.hid ⟨HP1.out.1, HP1.out.2, HQ.out⟩, Lib.hid (all_more hall.out HDK.out HG.out), HNb, rfl⟩, rfl⟩)
          case measure => (simp [natOf, HX5.out]; omega)
        | false =>
          rcases num_case nn d.toNat with hK | ⟨hK, h56⟩ | ⟨hK, h56⟩ | hK
          · have y1 : (922337203685477580 : Int) < (nn : Int) := int_gt hK
            have e0 : (false || decide (922337203685477580 < nn) || (decide (nn = 922337203685477580) && decide (56 < d.toNat))) = true := by rw [decide_eq_true hK]; rfl
            have HNb := Lib.hid (show NumI D (k + 1) q1 true by rw [← e0]; exact HN.out)
            clear e0
            have y1d : decide ((922337203685477580 : Int) < (nn : Int)) = true := decide_eq_true y1
            clear hdd hK
            have x5 := HX5.out
            have x1 := X1.out
            have x2 := X2.out
            have x3 := X3.out
            have x4 := X4.out
            go_wp2_with fail
            refine (refDigit_any d _).mono ?_
            rintro e w1 ⟨rfl, rfl⟩
            rw [HG.out]
            go_wp2_with fail
            clear x1 x2 x3 x4 x5
            go_roundw
            case rel => first | exact ⟨p + 1, k + 1, q1, true, by first | exact congrArg (Value.int .i64) HX5.out | rfl | simp, rfl, by first | rfl | simp [*], Lib.hid ⟨HP1.out.1, HP1.out.2, HQ.out⟩, Lib.hid (all_more hall.out HDK.out HG.out), HNb, rfl⟩ | ((repeat apply Exists.intro); exact ⟨⟨p + 1, k + 1, q1, true, by first | exact congrArg (Value.int .i64) HX5.out | rfl | simp, rfl, by first | rfl | simp [*], Lib.hid ⟨HP1.out.1, HP1.out.2, HQ.out⟩, Lib.hid (all_more hall.out HDK.out HG.out), HNb, rfl⟩, rfl⟩)
            case measure => (simp [natOf, HX5.out]; omega)
          · have y1 : ¬ (922337203685477580 : Int) < (nn : Int) := by omega
            have y2 : ((nn : Int) == 922337203685477580) = true := by rw [beq_iff_eq]; omega
            have y3 : (56 : Int) < ((d.toNat : Nat) : Int) := by omega
            have e0 : (false || decide (922337203685477580 < nn) || (decide (nn = 922337203685477580) && decide (56 < d.toNat))) = true := by rw [decide_eq_false (show ¬ 922337203685477580 < nn by omega), decide_eq_true hK, decide_eq_true h56]; rfl
            have HNb := Lib.hid (show NumI D (k + 1) q1 true by rw [← e0]; exact HN.out)
            clear e0
            have y1d : decide ((922337203685477580 : Int) < (nn : Int)) = false := decide_eq_false y1
            have y3d : decide ((56 : Int) < ((d.toNat : Nat) : Int)) = true := decide_eq_true y3
            clear hdd hK h56
            have x5 := HX5.out
            have x1 := X1.out
            have x2 := X2.out
            have x3 := X3.out
            have x4 := X4.out
            go_wp2_with fail
            refine (refDigit_any d _).mono ?_
            rintro e w1 ⟨rfl, rfl⟩
            rw [HG.out]
            go_wp2_with fail
            clear x1 x2 x3 x4 x5
            go_roundw
            case rel => first | exact ⟨p + 1, k + 1, q1, true, by first | exact congrArg (Value.int .i64) HX5.out | rfl | simp, rfl, by first | rfl | simp [*], Lib.hid ⟨HP1.out.1, HP1.out.2, HQ.out⟩, Lib.hid (all_more hall.out HDK.out HG.out), HNb, rfl⟩ | ((repeat apply Exists.intro); exact ⟨⟨p + 1, k + 1, q1, true, by first | exact congrArg (Value.int .i64) HX5.out | rfl | simp, rfl, by first | rfl | simp [*], Lib.hid ⟨HP1.out.1, HP1.out.2, HQ.out⟩, Lib.hid (all_more hall.out HDK.out HG.out), HNb, rfl⟩, rfl⟩)
            case measure => (simp [natOf, HX5.out]; omega)
          · have y1 : ¬ (922337203685477580 : Int) < (nn : Int) := by omega
            have y2 : ((nn : Int) == 922337203685477580) = true := by rw [beq_iff_eq]; omega
            have y3 : ¬ (56 : Int) < ((d.toNat : Nat) : Int) := by omega
            have e0 : (false || decide (922337203685477580 < nn) || (decide (nn = 922337203685477580) && decide (56 < d.toNat))) = false := by rw [decide_eq_false (show ¬ 922337203685477580 < nn by omega), decide_eq_true hK, decide_eq_false h56]; rfl
            have HNb := Lib.hid (show NumI D (k + 1) q1 false by rw [← e0]; exact HN.out)
            clear e0
            have y1d : decide ((922337203685477580 : Int) < (nn : Int)) = false := decide_eq_false y1
            have y3d : decide ((56 : Int) < ((d.toNat : Nat) : Int)) = false := decide_eq_false y3
            clear hdd hK h56
            have x5 := HX5.out
            have x1 := X1.out
            have x2 := X2.out
            have x3 := X3.out
            have x4 := X4.out
            go_wp2_with fail
            refine (refDigit_any d _).mono ?_
            rintro e w1 ⟨rfl, rfl⟩
            rw [HG.out]
            go_wp2_with fail
            clear x1 x2 x3 x4 x5
            go_roundw
            case rel => first | exact ⟨p + 1, k + 1, q1, false, by first | exact congrArg (Value.int .i64) HX5.out | rfl | simp, rfl, by first | rfl | simp [*], Lib.hid ⟨HP1.out.1, HP1.out.2, HQ.out⟩, Lib.hid (all_more hall.out HDK.out HG.out), HNb, rfl⟩ | ((repeat apply Exists.intro); exact ⟨⟨p + 1, k + 1, q1, false, by first | exact congrArg (Value.int .i64) HX5.out | rfl | simp, rfl, by first | rfl | simp [*], Lib.hid ⟨HP1.out.1, HP1.out.2, HQ.out⟩, Lib.hid (all_more hall.out HDK.out HG.out), HNb, rfl⟩, rfl⟩)
            case measure => (simp [natOf, HX5.out]; omega)
          · have y1 : ¬ (922337203685477580 : Int) < (nn : Int) := by omega
            have y2 : ((nn : Int) == 922337203685477580) = false := by rw [beq_eq_false_iff_ne]; omega
            have e0 : (false || decide (922337203685477580 < nn) || (decide (nn = 922337203685477580) && decide (56 < d.toNat))) = false := by rw [decide_eq_false (show ¬ 922337203685477580 < nn by omega), decide_eq_false (show ¬ nn = 922337203685477580 by omega)]; rfl
            have HNb := Lib.hid (show NumI D (k + 1) q1 false by rw [← e0]; exact HN.out)
            clear e0
            have y1d : decide ((922337203685477580 : Int) < (nn : Int)) = false := decide_eq_false y1
            clear hdd hK
            have x5 := HX5.out
            have x1 := X1.out
            have x2 := X2.out
            have x3 := X3.out
            have x4 := X4.out
            go_wp2_with fail
            refine (refDigit_any d _).mono ?_
            rintro e w1 ⟨rfl, rfl⟩
            rw [HG.out]
            go_wp2_with fail
            clear x1 x2 x3 x4 x5
            go_roundw
            case rel => first | exact ⟨p + 1, k + 1, q1, false, by first | exact congrArg (Value.int .i64) HX5.out | rfl | simp, rfl, by first | rfl | simp [*], Lib.hid ⟨HP1.out.1, HP1.out.2, HQ.out⟩, Lib.hid (all_more hall.out HDK.out HG.out), HNb, rfl⟩ | ((repeat apply Exists.intro); exact ⟨⟨p + 1, k + 1, q1, false, by first | exact congrArg (Value.int .i64) HX5.out | rfl | simp, rfl, by first | rfl | simp [*], Lib.hid ⟨HP1.out.1, HP1.out.2, HQ.out⟩, Lib.hid (all_more hall.out HDK.out HG.out), HNb, rfl⟩, rfl⟩)
            case measure => (simp [natOf, HX5.out]; omega)
    · have hlz : ¬ (p : Int) < (s.size : Int) := by omega
      have hrun := run_eq dig D k HP.2.1 hall.out (fun e he => by have h1 := (List.getElem?_eq_some_iff.1 he).1; have := HDL.out; omega)
      clear HP
      have hdl : (digs D).length = k := by rw [digs_len, hrun]
      have hdt : D.take k = digs D := by unfold digs; rw [hrun]
      have HI := hbb.out
      unfold NumI at HI
      rw [hdt] at HI
      have HP := hpk.out
      clear hrun hdt
      rcases Nat.eq_zero_or_pos k with hk0 | hkp
      · have hnil : digs D = [] := List.length_eq_zero_iff.1 (by omega)
        have HR := Lib.hid (show numL (c :: r) = none by rw [HNL.out, if_pos (Or.inl hnil)])
        have z1 : ((p : Int) == (a : Int)) = true := by rw [beq_iff_eq]; omega
        clear HI HP hnil hdl hk0
        go_wp2_with fail
        refine bodyPost_ret (v := .tuple #[.int .i64 0, .int .i64 (p : Nat), .bool false]) (by simp [results, Tryz.results77, go_sem]) rfl ⟨?_, rfl⟩
        rw [HR.out]
        exact ⟨0, (p : Nat), rfl⟩
      · have z1 : ((p : Int) == (a : Int)) = false := by rw [beq_eq_false_iff_ne]; omega
        have hfs : a < s.size := by have := HDL.out; omega
        have hfz3 : (a : Int) < (s.size : Int) := by omega
        have hd0 : s[a] = c := hb0
        have hh : (digs D).head? = some c := by
          have h1 := Lib.data_getElem? s a hfs
          rw [hd0] at h1
          unfold digs
          rw [List.head?_take, if_neg (by rw [digs_len] at hdl; omega), ← HDR.out, List.head?_drop]
          exact h1
        have hgd : dig c = true := digs_mem hh
        have hgb : 48 ≤ c.toNat ∧ c.toNat ≤ 57 := by simpa only [dig, Bool.and_eq_true, decide_eq_true_eq] using hgd
        have hk6 : k ≤ 1000000 := by have := H5.out; have := HDL.out; omega
        have Z2 := Lib.hid (wrap_sub HP.1 hk6)
        have z2b : (p : Int) - (a : Int) = (k : Int) := sub_is HP.1
        have Z2C := Lib.hid (wrap_small k hk6)
        have hne : digs D ≠ [] := fun e => by rw [e] at hh; simp at hh
        by_cases h48 : c = 48
        · have z4 : ((c.toNat : Nat) : Int) = 48 := by rw [h48]; rfl
          by_cases h1 : 1 < k
          · have z3 : (1 : Int) < (k : Int) := by omega
            have HR := Lib.hid (show numL (c :: r) = none by rw [HNL.out, if_pos (Or.inr (Or.inl ⟨by omega, by rw [hh, h48]⟩))])
            clear HI HP hne hdl hgb hgd hh h48 h1 hkp
            have z2 := Z2.out
            have z2c := Z2C.out
            go_wp2_with fail
            refine bodyPost_ret (v := .tuple #[.int .i64 0, .int .i64 (p : Nat), .bool false]) (by simp [results, Tryz.results77, go_sem]) rfl ⟨?_, rfl⟩
            rw [HR.out]
            exact ⟨0, (p : Nat), rfl⟩
          · have z3 : ¬ (1 : Int) < (k : Int) := by omega
            have hV : decV (digs D) = 0 := by rw [dec_one hh (by omega), h48]; rfl
            rw [hV] at HI
            obtain ⟨e1, e2⟩ := HI
            obtain rfl : bb = false := by rw [e1]; rfl
            obtain rfl : nn = 0 := e2 rfl
            have HR := Lib.hid (show numL (c :: r) = some ⟨3, 0, [], k⟩ by rw [HNL.out, if_neg, hV, hdl]; rfl; rintro (x | x | x); exact hne x; omega; omega)
            have HPF := Lib.hid (show p = a + k from HP.1)
            clear e1 e2 HP hne hdl hgb hgd hh h48 h1 hkp hV
            have z2 := Z2.out
            have z2c := Z2C.out
            go_wp2_with fail
            refine bodyPost_ret (v := .tuple #[.int .i64 0, .int .i64 (p : Nat), .bool true]) (by simp [results, Tryz.results77, go_sem]) rfl ⟨?_, rfl⟩
            rw [HR.out, HPF.out]
            exact rfl
        · have z4 : ¬ ((c.toNat : Nat) : Int) = 48 := fun e => h48 (UInt8.toNat_inj.1 (show c.toNat = 48 by omega))
          have hV := dec_pos hh (by omega)
          obtain ⟨V, hVe⟩ : ∃ V, V = decV (digs D) := ⟨_, rfl⟩
          rw [← hVe] at HI hV
          have z3 : 0 = 0 := rfl
          by_cases hbig : 9223372036854775808 < V
          · obtain rfl : bb = true := by rw [HI.1]; exact decide_eq_true hbig
            have HR := Lib.hid (show numL (c :: r) = none by rw [HNL.out, if_pos (Or.inr (Or.inr (by rw [← hVe]; omega)))])
            clear HI HP hne hdl hgb hgd hh h48 hkp hV hVe hbig
            by_cases h1 : (1 : Int) < (k : Int)
            · have z2 := Z2.out
              have z2c := Z2C.out
              go_wp2_with fail
              refine bodyPost_ret (v := .tuple #[.int .i64 0, .int .i64 (p : Nat), .bool false]) (by simp [results, Tryz.results77, go_sem]) rfl ⟨?_, rfl⟩
              rw [HR.out]
              exact ⟨0, (p : Nat), rfl⟩
            · have z2 := Z2.out
              have z2c := Z2C.out
              go_wp2_with fail
              refine bodyPost_ret (v := .tuple #[.int .i64 0, .int .i64 (p : Nat), .bool false]) (by simp [results, Tryz.results77, go_sem]) rfl ⟨?_, rfl⟩
              rw [HR.out]
              exact ⟨0, (p : Nat), rfl⟩
          · obtain rfl : bb = false := by rw [HI.1]; exact decide_eq_false hbig
            obtain rfl : nn = V := HI.2 rfl
            by_cases h63 : nn = 9223372036854775808
            · have HR := Lib.hid (show numL (c :: r) = none by rw [HNL.out, if_pos (Or.inr (Or.inr (by rw [← hVe]; omega)))])
              have y1 : ((nn : Int) == 9223372036854775808) = true := by rw [beq_iff_eq]; omega
              clear HI HP hne hdl hgb hgd hh h48 hkp hV hVe hbig h63
              by_cases h1 : (1 : Int) < (k : Int)
              · have z2 := Z2.out
                have z2c := Z2C.out
                go_wp2_with fail
                refine bodyPost_ret (v := .tuple #[.int .i64 0, .int .i64 (p : Nat), .bool false]) (by simp [results, Tryz.results77, go_sem]) rfl ⟨?_, rfl⟩
                rw [HR.out]
                exact ⟨0, (p : Nat), rfl⟩
              · have z2 := Z2.out
                have z2c := Z2C.out
                go_wp2_with fail
                refine bodyPost_ret (v := .tuple #[.int .i64 0, .int .i64 (p : Nat), .bool false]) (by simp [results, Tryz.results77, go_sem]) rfl ⟨?_, rfl⟩
                rw [HR.out]
                exact ⟨0, (p : Nat), rfl⟩
            · have HR := Lib.hid (show numL (c :: r) = some ⟨3, (nn : Int), [], k⟩ by
                rw [HNL.out, if_neg, ← hVe, hdl]
                rintro (x | x | x)
                · exact hne x
                · have x2 := x.2; rw [hh] at x2; exact h48 (Option.some.inj x2)
                · omega)
              have HPF := Lib.hid (show p = a + k from HP.1)
              have y1 : ((nn : Int) == 9223372036854775808) = false := by rw [beq_eq_false_iff_ne]; omega
              have HY := Lib.hid (pos_facts (show nn < 9223372036854775808 by omega))
              clear HI HP hne hdl hgb hgd hh h48 hkp hV hVe hbig h63
              by_cases h1 : (1 : Int) < (k : Int)
              · obtain ⟨y3, y4⟩ := HY.out
                have z2 := Z2.out
                have z2c := Z2C.out
                go_wp2_with fail
                refine bodyPost_ret (v := .tuple #[.int .i64 (nn : Int), .int .i64 (p : Nat), .bool true]) (by simp [results, Tryz.results77, go_sem]) rfl ⟨?_, rfl⟩
                rw [HR.out, HPF.out]
                exact rfl
              · obtain ⟨y3, y4⟩ := HY.out
                have z2 := Z2.out
                have z2c := Z2C.out
                go_wp2_with fail
                refine bodyPost_ret (v := .tuple #[.int .i64 (nn : Int), .int .i64 (p : Nat), .bool true]) (by simp [results, Tryz.results77, go_sem]) rfl ⟨?_, rfl⟩
                rw [HR.out, HPF.out]
                exact rfl
end Go.Proofs.YtmfkpoojfpepaaaGreatDoor.Tk
namespace Go.Proofs.YtmfkpoojfpepaaaGreatDoor.Tk
open Go.RowKit
set_option linter.unusedVariables false
set_option linter.unusedSimpArgs false

set_option maxRecDepth 100000 in
set_option maxHeartbeats 8000000 in
theorem refNum_minus (s : ByteArray) (hs : s.size ≤ 500) (a : Nat) (c : UInt8) (r : List UInt8) (hL : s.data.toList.drop a = c :: r) (hc : c.toNat = 45) (w : World) :
    Calls Tryz.prog 77 #[.string s, .int .i64 (a : Nat)] w fun e w' => NumEnd a e (numL (c :: r)) ∧ w = w' := by
  have hlen : a + (r.length + 1) = s.size := by
    have : (s.data.toList.drop a).length = (c :: r).length := by rw [hL]
    rw [List.length_drop, ← Lib.size_eq] at this
    simp only [List.length_cons] at this
    omega
  have halt : a < s.size := by omega
  have haz : (a : Int) < (s.size : Int) := by omega
  have hb0 : s[a] = c := by
    have h1 := Lib.data_getElem? s a halt
    have h2 : (s.data.toList.drop a)[0]? = some c := by rw [hL]; rfl
    rw [List.getElem?_drop, Nat.add_zero] at h2
    exact Option.some.inj (h1.symm.trans h2)
  have hcz : ((c.toNat : Nat) : Int) = 45 := by omega
  obtain ⟨f, hf⟩ : ∃ f : Nat, f = a + 1 := ⟨_, rfl⟩
  have HFF := Lib.hid (wrap_small f (by omega))
  have hfz2 : (a : Int) + 1 = (f : Int) := by omega
  obtain ⟨D, hD⟩ : ∃ D, D = r := ⟨_, rfl⟩
  have HDR := Lib.hid (show s.data.toList.drop f = D by rw [hf, hD, ← List.drop_drop, hL]; rfl)
  have HDL := Lib.hid (show f + D.length = s.size by rw [hf, hD]; omega)
  have HNL := Lib.hid (show numL (c :: r) = if digs D = [] ∨ (digs D).head? = some 48 ∨ 9223372036854775808 < decV (digs D) then none else some ⟨3, -(decV (digs D) : Int), [], (digs D).length + 1⟩ by rw [hD, numL_cons, if_pos (by rw [hc]; rfl)])
  have HF := Lib.hid hf
  have H5 := Lib.hid hs
  clear hL hlen hc hD hs hf
  go_enter Tryz.func77, Tryz.ntmps77
  go_wp2_with fail
  rw [HFF.out]
  go_loopw [1, 9, 10] (fun va vn vb wr => NumR D f w va vn vb wr) (fun va _ _ _ => s.size - natOf va)
  case atStart => exact ⟨f, 0, 0, false, rfl, rfl, rfl, Lib.hid ⟨rfl, Nat.zero_le _, by omega⟩, Lib.hid (fun j c h => absurd h (Nat.not_lt_zero _)), Lib.hid (NumI.start D), rfl⟩
  case round =>
    obtain ⟨p, k, nn, bb, rfl, rfl, rfl, hpk, hall, hbb, rfl⟩ := hrel
    have HP := hpk.out
    by_cases hlt : p < s.size
    · have hlz : (p : Int) < (s.size : Int) := by omega
      obtain ⟨d, hd⟩ : ∃ d, s[p] = d := ⟨_, rfl⟩
      have HDK := Lib.hid (show D[k]? = some d by
        have h1 := Lib.data_getElem? s p hlt
        rw [hd] at h1
        rw [← HDR.out, List.getElem?_drop, ← HP.1]
        exact h1)
      obtain ⟨g, hg⟩ : ∃ g, dig d = g := ⟨_, rfl⟩
      have HG := Lib.hid hg
      cases g
      · have hrun := run_eq dig D k HP.2.1 hall.out (fun e he => by have := HDK.out.symm.trans he; cases this; exact HG.out)
        clear HP hg
        have hdl : (digs D).length = k := by rw [digs_len, hrun]
        have hdt : D.take k = digs D := by unfold digs; rw [hrun]
        have HI := hbb.out
        unfold NumI at HI
        rw [hdt] at HI
        have HP := hpk.out
        clear hrun hdt
        rcases Nat.eq_zero_or_pos k with hk0 | hkp
        · have hnil : digs D = [] := List.length_eq_zero_iff.1 (by omega)
          have HR := Lib.hid (show numL (c :: r) = none by rw [HNL.out, if_pos (Or.inl hnil)])
          have z1 : ((p : Int) == (f : Int)) = true := by rw [beq_iff_eq]; omega
          clear HI HP hnil hdl hk0
          go_wp2_with fail
          refine (refDigit_any d _).mono ?_
          rintro e w1 ⟨rfl, rfl⟩
          rw [HG.out]
          go_wp2_with fail
          refine bodyPost_ret (v := .tuple #[.int .i64 0, .int .i64 (p : Nat), .bool false]) (by simp [results, Tryz.results77, go_sem]) rfl ⟨?_, rfl⟩
          rw [HR.out]
          exact ⟨0, (p : Nat), rfl⟩
        · have z1 : ((p : Int) == (f : Int)) = false := by rw [beq_eq_false_iff_ne]; omega
          have hfs : f < s.size := by have := HDL.out; omega
          have hfz3 : (f : Int) < (s.size : Int) := by omega
          obtain ⟨d0, hd0⟩ : ∃ d0, s[f] = d0 := ⟨_, rfl⟩
          have hh : (digs D).head? = some d0 := by
            have h1 := Lib.data_getElem? s f hfs
            rw [hd0] at h1
            unfold digs
            rw [List.head?_take, if_neg (by rw [digs_len] at hdl; omega), ← HDR.out, List.head?_drop]
            exact h1
          have hgd : dig d0 = true := digs_mem hh
          have hgb : 48 ≤ d0.toNat ∧ d0.toNat ≤ 57 := by simpa only [dig, Bool.and_eq_true, decide_eq_true_eq] using hgd
          have hk6 : k ≤ 1000000 := by have := H5.out; have := HDL.out; omega
          have Z2 := Lib.hid (wrap_sub HP.1 hk6)
          have z2b : (p : Int) - (f : Int) = (k : Int) := sub_is HP.1
          have Z2C := Lib.hid (wrap_small k hk6)
          have hne : digs D ≠ [] := fun e => by rw [e] at hh; simp at hh
          by_cases h48 : d0 = 48
          · have z4 : ((d0.toNat : Nat) : Int) = 48 := by rw [h48]; rfl
            by_cases h1 : 1 < k
            · have z3 : (1 : Int) < (k : Int) := by omega
              have HR := Lib.hid (show numL (c :: r) = none by rw [HNL.out, if_pos (Or.inr (Or.inl (by rw [hh, h48])))])
              clear HI HP hne hdl hgb hgd hh h48 h1 hkp
              have z2 := Z2.out
              have z2c := Z2C.out
              go_wp2_with fail
              refine (refDigit_any d _).mono ?_
              rintro e w1 ⟨rfl, rfl⟩
              rw [HG.out]
              go_wp2_with fail
              refine bodyPost_ret (v := .tuple #[.int .i64 0, .int .i64 (p : Nat), .bool false]) (by simp [results, Tryz.results77, go_sem]) rfl ⟨?_, rfl⟩
              rw [HR.out]
              exact ⟨0, (p : Nat), rfl⟩
            · have z3 : ¬ (1 : Int) < (k : Int) := by omega
              have hV : decV (digs D) = 0 := by rw [dec_one hh (by omega), h48]; rfl
              rw [hV] at HI
              obtain ⟨e1, e2⟩ := HI
              obtain rfl : bb = false := by rw [e1]; rfl
              obtain rfl : nn = 0 := e2 rfl
              have HR := Lib.hid (show numL (c :: r) = none by rw [HNL.out, if_pos (Or.inr (Or.inl (by rw [hh, h48])))])
              clear e1 e2 HP hne hdl hgb hgd hh h48 h1 hkp hV
              have z2 := Z2.out
              have z2c := Z2C.out
              go_wp2_with fail
              refine (refDigit_any d _).mono ?_
              rintro e w1 ⟨rfl, rfl⟩
              rw [HG.out]
              go_wp2_with fail
              refine bodyPost_ret (v := .tuple #[.int .i64 0, .int .i64 (p : Nat), .bool false]) (by simp [results, Tryz.results77, go_sem]) rfl ⟨?_, rfl⟩
              rw [HR.out]
              exact ⟨0, (p : Nat), rfl⟩
          · have z4 : ¬ ((d0.toNat : Nat) : Int) = 48 := fun e => h48 (UInt8.toNat_inj.1 (show d0.toNat = 48 by omega))
            have hV := dec_pos hh (by omega)
            obtain ⟨V, hVe⟩ : ∃ V, V = decV (digs D) := ⟨_, rfl⟩
            rw [← hVe] at HI hV
            have z3 : 0 = 0 := rfl
            by_cases hbig : 9223372036854775808 < V
            · obtain rfl : bb = true := by rw [HI.1]; exact decide_eq_true hbig
              have HR := Lib.hid (show numL (c :: r) = none by rw [HNL.out, if_pos (Or.inr (Or.inr (by rw [← hVe]; omega)))])
              clear HI HP hne hdl hgb hgd hh h48 hkp hV hVe hbig
              by_cases h1 : (1 : Int) < (k : Int)
              · have z2 := Z2.out
                have z2c := Z2C.out
                go_wp2_with fail
                refine (refDigit_any d _).mono ?_
                rintro e w1 ⟨rfl, rfl⟩
                rw [HG.out]
                go_wp2_with fail
                refine bodyPost_ret (v := .tuple #[.int .i64 0, .int .i64 (p : Nat), .bool false]) (by simp [results, Tryz.results77, go_sem]) rfl ⟨?_, rfl⟩
                rw [HR.out]
                exact ⟨0, (p : Nat), rfl⟩
              · have z2 := Z2.out
                have z2c := Z2C.out
                go_wp2_with fail
                refine (refDigit_any d _).mono ?_
                rintro e w1 ⟨rfl, rfl⟩
                rw [HG.out]
                go_wp2_with fail
                refine bodyPost_ret (v := .tuple #[.int .i64 0, .int .i64 (p : Nat), .bool false]) (by simp [results, Tryz.results77, go_sem]) rfl ⟨?_, rfl⟩
                rw [HR.out]
                exact ⟨0, (p : Nat), rfl⟩
            · obtain rfl : bb = false := by rw [HI.1]; exact decide_eq_false hbig
              obtain rfl : nn = V := HI.2 rfl
              have HR := Lib.hid (show numL (c :: r) = some ⟨3, -(nn : Int), [], k + 1⟩ by
                rw [HNL.out, if_neg, ← hVe, hdl]
                rintro (x | x | x)
                · exact hne x
                · rw [hh] at x; exact h48 (Option.some.inj x)
                · omega)
              have HPF := Lib.hid (show p = a + (k + 1) by have := HF.out; omega)
              have y1 : ((nn : Int) == 0) = false := by rw [beq_eq_false_iff_ne]; omega
              obtain ⟨m1, hm1⟩ : ∃ m1 : Int, m1 = (nn : Int) - 1 := ⟨_, rfl⟩
              have HY := Lib.hid (neg_facts hV (by omega) hm1)
              clear HI HP hne hdl hgb hgd hh h48 hkp hV hVe hbig hm1
              by_cases h1 : (1 : Int) < (k : Int)
              · have z2 := Z2.out
                have z2c := Z2C.out
                go_wp2_with fail
                refine (refDigit_any d _).mono ?_
                rintro e w1 ⟨rfl, rfl⟩
                rw [HG.out]
                go_wp2_with fail
                obtain ⟨y2, y3, y4, y5, y6⟩ := HY.out
                simp only [y2, y3, y4, y5, y6]
                refine bodyPost_ret (v := .tuple #[.int .i64 (-(nn : Int)), .int .i64 (p : Nat), .bool true]) (by simp [results, Tryz.results77, go_sem]) rfl ⟨?_, rfl⟩
                rw [HR.out, HPF.out]
                exact rfl
              · have z2 := Z2.out
                have z2c := Z2C.out
                go_wp2_with fail
                refine (refDigit_any d _).mono ?_
                rintro e w1 ⟨rfl, rfl⟩
                rw [HG.out]
                go_wp2_with fail
                obtain ⟨y2, y3, y4, y5, y6⟩ := HY.out
                simp only [y2, y3, y4, y5, y6]
                refine bodyPost_ret (v := .tuple #[.int .i64 (-(nn : Int)), .int .i64 (p : Nat), .bool true]) (by simp [results, Tryz.results77, go_sem]) rfl ⟨?_, rfl⟩
                rw [HR.out, HPF.out]
                exact rfl
      · have HP1 := Lib.hid (show p + 1 = f + (k + 1) ∧ k + 1 ≤ D.length by have := HDL.out; omega)
        have HX5 := Lib.hid (wrap_succ p (by have := H5.out; omega))
        clear HP
        have hdd : 48 ≤ d.toNat ∧ d.toNat ≤ 57 := by simpa only [dig, Bool.and_eq_true, decide_eq_true_eq] using hg
        have HN := Lib.hid (hbb.out.next HDK.out HG.out)
        obtain ⟨p1, hp1⟩ : ∃ p1 : Int, p1 = (10 * (nn : Int)) % 18446744073709551616 := ⟨_, rfl⟩
        obtain ⟨d1, hd1⟩ : ∃ d1 : Int, d1 = ((d.toNat : Nat) : Int) - 48 := ⟨_, rfl⟩
        obtain ⟨q1, hq1⟩ : ∃ q1 : Nat, q1 = (10 * nn + (d.toNat - 48)) % 18446744073709551616 := ⟨_, rfl⟩
        have X1 := Lib.hid (show IntKind.u64.wrap (10 * (nn : Int)) = p1 by rw [IntKind.wrap_u64, hp1])
        have X2 := Lib.hid (num_x2 hdd hd1)
        have X3 := Lib.hid (num_x3 hdd hd1)
        have X4 := Lib.hid (num_x4 hdd hd1 hp1 hq1)
        have HQ := Lib.hid (show q1 < 18446744073709551616 by rw [hq1]; exact Nat.mod_lt _ (by decide))
        rw [← hq1] at HN
        clear hp1 hd1 hq1
        cases bb with
        | true =>
          have HNb := Lib.hid (show NumI D (k + 1) q1 true from HN.out)
          clear hdd
          have x5 := HX5.out
          have x1 := X1.out
          have x2 := X2.out
          have x3 := X3.out
          have x4 := X4.out
          go_wp2_with fail
          refine (refDigit_any d _).mono ?_
          rintro e w1 ⟨rfl, rfl⟩
          rw [HG.out]
          go_wp2_with fail
          clear x1 x2 x3 x4 x5
          go_roundw
          case rel => first | exact ⟨p + 1, k + 1, q1, true, by first | exact congrArg (Value.int .i64) HX5.out | rfl | simp, rfl, by first | rfl | simp [*], Lib.hid ⟨HP1.out.1, HP1.out.2, HQ.out⟩, Lib.hid (all_more hall.out HDK.out HG.out), HNb, rfl⟩ | ((repeat apply Exists.intro); exact ⟨⟨p + 1, k + 1, q1, true, by first | exact congrArg (Value.int .i64) HX5.out | rfl | simp, rfl, by first | rfl | simp [*], Lib.hid ⟨HP1.out.1, HP1.out.2, HQ.out⟩, Lib.hid (all_more hall.out HDK.out HG.out), HNb, rfl⟩, rfl⟩)
          case measure => (simp [natOf, HX5.out]; omega)
        | false =>
          rcases num_case nn d.toNat with hK | ⟨hK, h56⟩ | ⟨hK, h56⟩ | hK
          · have y1 : (922337203685477580 : Int) < (nn : Int) := int_gt hK
            have e0 : (false || decide (922337203685477580 < nn) || (decide (nn = 922337203685477580) && decide (56 < d.toNat))) = true := by rw [decide_eq_true hK]; rfl
            have HNb := Lib.hid (show NumI D (k + 1) q1 true by rw [← e0]; exact HN.out)
            clear e0
            have y1d : decide ((922337203685477580 : Int) < (nn : Int)) = true := decide_eq_true y1
            clear hdd hK
            have x5 := HX5.out
            have x1 := X1.out
            have x2 := X2.out
            have x3 := X3.out
            have x4 := X4.out
            go_wp2_with fail
            refine (refDigit_any d _).mono ?_
            rintro e w1 ⟨rfl, rfl⟩
            rw [HG.out]
            go_wp2_with fail
            clear x1 x2 x3 x4 x5
            go_roundw
            case rel => first | exact ⟨p + 1, k + 1, q1, true, by first | exact congrArg (Value.int .i64) HX5.out | rfl | simp, rfl, by first | rfl | simp [*], Lib.hid ⟨HP1.out.1, HP1.out.2, HQ.out⟩, Lib.hid (all_more hall.out HDK.out HG.out), HNb, rfl⟩ | ((repeat apply Exists.intro); exact ⟨⟨p + 1, k + 1, q1, true, by first | exact congrArg (Value.int .i64) HX5.out | rfl | simp, rfl, by first | rfl | simp [*], Lib.hid ⟨HP1.out.1, HP1.out.2, HQ.out⟩, Lib.hid (all_more hall.out HDK.out HG.out), HNb, rfl⟩, rfl⟩)
            case measure => (simp [natOf, HX5.out]; omega)
          · have y1 : ¬ (922337203685477580 : Int) < (nn : Int) := by omega
            have y2 : ((nn : Int) == 922337203685477580) = true := by rw [beq_iff_eq]; omega
            have y3 : (56 : Int) < ((d.toNat : Nat) : Int) := by omega
            have e0 : (false || decide (922337203685477580 < nn) || (decide (nn = 922337203685477580) && decide (56 < d.toNat))) = true := by rw [decide_eq_false (show ¬ 922337203685477580 < nn by omega), decide_eq_true hK, decide_eq_true h56]; rfl
            have HNb := Lib.hid (show NumI D (k + 1) q1 true by rw [← e0]; exact HN.out)
            clear e0
            have y1d : decide ((922337203685477580 : Int) < (nn : Int)) = false := decide_eq_false y1
            have y3d : decide ((56 : Int) < ((d.toNat : Nat) : Int)) = true := decide_eq_true y3
            clear hdd hK h56
            have x5 := HX5.out
            have x1 := X1.out
            have x2 := X2.out
            have x3 := X3.out
            have x4 := X4.out
            go_wp2_with fail
            refine (refDigit_any d _).mono ?_
            rintro e w1 ⟨rfl, rfl⟩
            rw [HG.out]
            go_wp2_with fail
            clear x1 x2 x3 x4 x5
            go_roundw
            case rel => first | exact ⟨p + 1, k + 1, q1, true, by first | exact congrArg (Value.int .i64) HX5.out | rfl | simp, rfl, by first | rfl | simp [*], Lib.hid ⟨HP1.out.1, HP1.out.2, HQ.out⟩, Lib.hid (all_more hall.out HDK.out HG.out), HNb, rfl⟩ | ((repeat apply Exists.intro); exact ⟨⟨p + 1, k + 1, q1, true, by first | exact congrArg (Value.int .i64) HX5.out | rfl | simp, rfl, by first | rfl | simp [*], Lib.hid ⟨HP1.out.1, HP1.out.2, HQ.out⟩, Lib.hid (all_more hall.out HDK.out HG.out), HNb, rfl⟩, rfl⟩)
            case measure => (simp [natOf, HX5.out]; omega)
          · have y1 : ¬ (922337203685477580 : Int) < (nn : Int) := by omega
            have y2 : ((nn : Int) == 922337203685477580) = true := by rw [beq_iff_eq]; omega
            have y3 : ¬ (56 : Int) < ((d.toNat : Nat) : Int) := by omega
            have e0 : (false || decide (922337203685477580 < nn) || (decide (nn = 922337203685477580) && decide (56 < d.toNat))) = false := by rw [decide_eq_false (show ¬ 922337203685477580 < nn by omega), decide_eq_true hK, decide_eq_false h56]; rfl
            have HNb := Lib.hid (show NumI D (k + 1) q1 false by rw [← e0]; exact HN.out)
            clear e0
            have y1d : decide ((922337203685477580 : Int) < (nn : Int)) = false := decide_eq_false y1
            have y3d : decide ((56 : Int) < ((d.toNat : Nat) : Int)) = false := decide_eq_false y3
            clear hdd hK h56
            have x5 := HX5.out
            have x1 := X1.out
            have x2 := X2.out
            have x3 := X3.out
            have x4 := X4.out
            go_wp2_with fail
            refine (refDigit_any d _).mono ?_
            rintro e w1 ⟨rfl, rfl⟩
            rw [HG.out]
            go_wp2_with fail
            clear x1 x2 x3 x4 x5
            go_roundw
            case rel => first | exact ⟨p + 1, k + 1, q1, false, by first | exact congrArg (Value.int .i64) HX5.out | rfl | simp, rfl, by first | rfl | simp [*], Lib.hid ⟨HP1.out.1, HP1.out.2, HQ.out⟩, Lib.hid (all_more hall.out HDK.out HG.out), HNb, rfl⟩ | ((repeat apply Exists.intro); exact ⟨⟨p + 1, k + 1, q1, false, by first | exact congrArg (Value.int .i64) HX5.out | rfl | simp, rfl, by first | rfl | simp [*], Lib.hid ⟨HP1.out.1, HP1.out.2, HQ.out⟩, Lib.hid (all_more hall.out HDK.out HG.out), HNb, rfl⟩, rfl⟩)
            case measure => (simp [natOf, HX5.out]; omega)
          · have y1 : ¬ (922337203685477580 : Int) < (nn : Int) := by omega
            have y2 : ((nn : Int) == 922337203685477580) = false := by rw [beq_eq_false_iff_ne]; omega
            have e0 : (false || decide (922337203685477580 < nn) || (decide (nn = 922337203685477580) && decide (56 < d.toNat))) = false := by rw [decide_eq_false (show ¬ 922337203685477580 < nn by omega), decide_eq_false (show ¬ nn = 922337203685477580 by omega)]; rfl
            have HNb := Lib.hid (show NumI D (k + 1) q1 false by rw [← e0]; exact HN.out)
            clear e0
            have y1d : decide ((922337203685477580 : Int) < (nn : Int)) = false := decide_eq_false y1
            clear hdd hK
            have x5 := HX5.out
            have x1 := X1.out
            have x2 := X2.out
            have x3 := X3.out
            have x4 := X4.out
            go_wp2_with fail
            refine (refDigit_any d _).mono ?_
            rintro e w1 ⟨rfl, rfl⟩
            rw [HG.out]
            go_wp2_with fail
            clear x1 x2 x3 x4 x5
            go_roundw
            case rel => first | exact ⟨p + 1, k + 1, q1, false, by first | exact congrArg (Value.int .i64) HX5.out | rfl | simp, rfl, by first | rfl | simp [*], Lib.hid ⟨HP1.out.1, HP1.out.2, HQ.out⟩, Lib.hid (all_more hall.out HDK.out HG.out), HNb, rfl⟩ | ((repeat apply Exists.intro); exact ⟨⟨p + 1, k + 1, q1, false, by first | exact congrArg (Value.int .i64) HX5.out | rfl | simp, rfl, by first | rfl | simp [*], Lib.hid ⟨HP1.out.1, HP1.out.2, HQ.out⟩, Lib.hid (all_more hall.out HDK.out HG.out), HNb, rfl⟩, rfl⟩)
            case measure => (simp [natOf, HX5.out]; omega)
    · have hlz : ¬ (p : Int) < (s.size : Int) := by omega
      have hrun := run_eq dig D k HP.2.1 hall.out (fun e he => by have h1 := (List.getElem?_eq_some_iff.1 he).1; have := HDL.out; omega)
      clear HP
      have hdl : (digs D).length = k := by rw [digs_len, hrun]
      have hdt : D.take k = digs D := by unfold digs; rw [hrun]
      have HI := hbb.out
      unfold NumI at HI
      rw [hdt] at HI
      have HP := hpk.out
      clear hrun hdt
      rcases Nat.eq_zero_or_pos k with hk0 | hkp
      · have hnil : digs D = [] := List.length_eq_zero_iff.1 (by omega)
        have HR := Lib.hid (show numL (c :: r) = none by rw [HNL.out, if_pos (Or.inl hnil)])
        have z1 : ((p : Int) == (f : Int)) = true := by rw [beq_iff_eq]; omega
        clear HI HP hnil hdl hk0
        go_wp2_with fail
        refine bodyPost_ret (v := .tuple #[.int .i64 0, .int .i64 (p : Nat), .bool false]) (by simp [results, Tryz.results77, go_sem]) rfl ⟨?_, rfl⟩
        rw [HR.out]
        exact ⟨0, (p : Nat), rfl⟩
      · have z1 : ((p : Int) == (f : Int)) = false := by rw [beq_eq_false_iff_ne]; omega
        have hfs : f < s.size := by have := HDL.out; omega
        have hfz3 : (f : Int) < (s.size : Int) := by omega
        obtain ⟨d0, hd0⟩ : ∃ d0, s[f] = d0 := ⟨_, rfl⟩
        have hh : (digs D).head? = some d0 := by
          have h1 := Lib.data_getElem? s f hfs
          rw [hd0] at h1
          unfold digs
          rw [List.head?_take, if_neg (by rw [digs_len] at hdl; omega), ← HDR.out, List.head?_drop]
          exact h1
        have hgd : dig d0 = true := digs_mem hh
        have hgb : 48 ≤ d0.toNat ∧ d0.toNat ≤ 57 := by simpa only [dig, Bool.and_eq_true, decide_eq_true_eq] using hgd
        have hk6 : k ≤ 1000000 := by have := H5.out; have := HDL.out; omega
        have Z2 := Lib.hid (wrap_sub HP.1 hk6)
        have z2b : (p : Int) - (f : Int) = (k : Int) := sub_is HP.1
        have Z2C := Lib.hid (wrap_small k hk6)
        have hne : digs D ≠ [] := fun e => by rw [e] at hh; simp at hh
        by_cases h48 : d0 = 48
        · have z4 : ((d0.toNat : Nat) : Int) = 48 := by rw [h48]; rfl
          by_cases h1 : 1 < k
          · have z3 : (1 : Int) < (k : Int) := by omega
            have HR := Lib.hid (show numL (c :: r) = none by rw [HNL.out, if_pos (Or.inr (Or.inl (by rw [hh, h48])))])
            clear HI HP hne hdl hgb hgd hh h48 h1 hkp
            have z2 := Z2.out
            have z2c := Z2C.out
            go_wp2_with fail
            refine bodyPost_ret (v := .tuple #[.int .i64 0, .int .i64 (p : Nat), .bool false]) (by simp [results, Tryz.results77, go_sem]) rfl ⟨?_, rfl⟩
            rw [HR.out]
            exact ⟨0, (p : Nat), rfl⟩
          · have z3 : ¬ (1 : Int) < (k : Int) := by omega
            have hV : decV (digs D) = 0 := by rw [dec_one hh (by omega), h48]; rfl
            rw [hV] at HI
            obtain ⟨e1, e2⟩ := HI
            obtain rfl : bb = false := by rw [e1]; rfl
            obtain rfl : nn = 0 := e2 rfl
            have HR := Lib.hid (show numL (c :: r) = none by rw [HNL.out, if_pos (Or.inr (Or.inl (by rw [hh, h48])))])
            clear e1 e2 HP hne hdl hgb hgd hh h48 h1 hkp hV
            have z2 := Z2.out
            have z2c := Z2C.out
            go_wp2_with fail
            refine bodyPost_ret (v := .tuple #[.int .i64 0, .int .i64 (p : Nat), .bool false]) (by simp [results, Tryz.results77, go_sem]) rfl ⟨?_, rfl⟩
            rw [HR.out]
            exact ⟨0, (p : Nat), rfl⟩
        · have z4 : ¬ ((d0.toNat : Nat) : Int) = 48 := fun e => h48 (UInt8.toNat_inj.1 (show d0.toNat = 48 by omega))
          have hV := dec_pos hh (by omega)
          obtain ⟨V, hVe⟩ : ∃ V, V = decV (digs D) := ⟨_, rfl⟩
          rw [← hVe] at HI hV
          have z3 : 0 = 0 := rfl
          by_cases hbig : 9223372036854775808 < V
          · obtain rfl : bb = true := by rw [HI.1]; exact decide_eq_true hbig
            have HR := Lib.hid (show numL (c :: r) = none by rw [HNL.out, if_pos (Or.inr (Or.inr (by rw [← hVe]; omega)))])
            clear HI HP hne hdl hgb hgd hh h48 hkp hV hVe hbig
            by_cases h1 : (1 : Int) < (k : Int)
            · have z2 := Z2.out
              have z2c := Z2C.out
              go_wp2_with fail
              refine bodyPost_ret (v := .tuple #[.int .i64 0, .int .i64 (p : Nat), .bool false]) (by simp [results, Tryz.results77, go_sem]) rfl ⟨?_, rfl⟩
              rw [HR.out]
              exact ⟨0, (p : Nat), rfl⟩
            · have z2 := Z2.out
              have z2c := Z2C.out
              go_wp2_with fail
              refine bodyPost_ret (v := .tuple #[.int .i64 0, .int .i64 (p : Nat), .bool false]) (by simp [results, Tryz.results77, go_sem]) rfl ⟨?_, rfl⟩
              rw [HR.out]
              exact ⟨0, (p : Nat), rfl⟩
          · obtain rfl : bb = false := by rw [HI.1]; exact decide_eq_false hbig
            obtain rfl : nn = V := HI.2 rfl
            have HR := Lib.hid (show numL (c :: r) = some ⟨3, -(nn : Int), [], k + 1⟩ by
              rw [HNL.out, if_neg, ← hVe, hdl]
              rintro (x | x | x)
              · exact hne x
              · rw [hh] at x; exact h48 (Option.some.inj x)
              · omega)
            have HPF := Lib.hid (show p = a + (k + 1) by have := HF.out; omega)
            have y1 : ((nn : Int) == 0) = false := by rw [beq_eq_false_iff_ne]; omega
            obtain ⟨m1, hm1⟩ : ∃ m1 : Int, m1 = (nn : Int) - 1 := ⟨_, rfl⟩
            have HY := Lib.hid (neg_facts hV (by omega) hm1)
            clear HI HP hne hdl hgb hgd hh h48 hkp hV hVe hbig hm1
            by_cases h1 : (1 : Int) < (k : Int)
            · have z2 := Z2.out
              have z2c := Z2C.out
              go_wp2_with fail
              obtain ⟨y2, y3, y4, y5, y6⟩ := HY.out
              simp only [y2, y3, y4, y5, y6]
              refine bodyPost_ret (v := .tuple #[.int .i64 (-(nn : Int)), .int .i64 (p : Nat), .bool true]) (by simp [results, Tryz.results77, go_sem]) rfl ⟨?_, rfl⟩
              rw [HR.out, HPF.out]
              exact rfl
            · have z2 := Z2.out
              have z2c := Z2C.out
              go_wp2_with fail
              obtain ⟨y2, y3, y4, y5, y6⟩ := HY.out
              simp only [y2, y3, y4, y5, y6]
              refine bodyPost_ret (v := .tuple #[.int .i64 (-(nn : Int)), .int .i64 (p : Nat), .bool true]) (by simp [results, Tryz.results77, go_sem]) rfl ⟨?_, rfl⟩
              rw [HR.out, HPF.out]
              exact rfl
end Go.Proofs.YtmfkpoojfpepaaaGreatDoor.Tk
