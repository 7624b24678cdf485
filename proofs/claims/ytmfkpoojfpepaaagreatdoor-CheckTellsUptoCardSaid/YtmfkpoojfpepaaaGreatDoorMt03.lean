/-
  The walk of CheckTells, of a filter whose names are few and short: it returns true. Memory that was there is left as it was.
-/
import Derived.Test.YtmfkpoojfpepaaaGreatDoorMt01
import Derived.Test.YtmfkpoojfpepaaaGreatDoorMt02
import Derived.Test.YtmfkpoojfpepaaaGreatDoorMp02
import Derived.BigQuiet
import Derived.Test.YtmfkpoojfpepaaaGreatDoorMp13
import Derived.Test.YtmfkpoojfpepaaaGreatDoorMp15
/-
  Contract of the document's answer Fits: what is told of attributes by a schema. Memory that was there is left as it was.
-/
namespace Go.Proofs.YtmfkpoojfpepaaaGreatDoor.Ck
open Go.RowKit Go.Proofs.YtmfkpoojfpepaaaGreatDoor.Fl Go.Proofs.YtmfkpoojfpepaaaGreatDoor.Tk
set_option linter.unusedVariables false
set_option linter.unusedSimpArgs false

def rfNone (l : List Nm) (t : List Bool) (vs : List Att) (j : Nat) : Bool := (vs.take j).any fun v => !(hasN l t v.name)
def rfOther (l : List Nm) (t : List Bool) (vs : List Att) (j : Nat) : Bool := (vs.take j).any fun v => hasN l t v.name && !(v.text == isT l t v.name)
def rfOdd (vs : List Att) (j : Nat) : Bool := (vs.take j).any oddB
theorem any_step {p : Att → Bool} {vs : List Att} {j : Nat} {U : Att} (h : vs[j]? = some U) : (vs.take (j + 1)).any p = ((vs.take j).any p || p U) := by
  rw [List.take_add_one, h, List.any_append]
  simp
theorem odd_eq (U : Att) (pl : Bool) (hp : plainB U.str = pl) : oddB U = if U.text then !(U.num == 0 && pl) else !(U.str == []) := by
  unfold oddB valB
  rw [hp]
  cases U.text <;> simp
theorem rf_end {l : List Nm} {t : List Bool} {vs : List Att} (hs : schB l t = true) (h16 : ¬ 16 < vs.length) (hd : (attNms vs).Nodup) :
    fitN l t vs = if rfNone l t vs vs.length = true then 9 else if rfOther l t vs vs.length = true then 4 else if rfOdd vs vs.length = true then 1 else 0 := by
  unfold fitN rfNone rfOther rfOdd
  rw [if_pos hs, if_neg h16, if_neg (not_not_intro hd), List.take_length]
  by_cases ha : (attNms vs).all (hasN l t) = true
  · rw [if_pos ha]
    have h1 : ∀ v ∈ vs, hasN l t v.name = true := by
      intro v hv
      rw [List.all_eq_true] at ha
      exact ha v.name (List.mem_map.2 ⟨v, hv, rfl⟩)
    have h2 : ¬ (vs.any fun v => !(hasN l t v.name)) = true := by
      rw [List.any_eq_true]
      rintro ⟨v, hv, h⟩
      rw [h1 v hv] at h
      cases h
    have h3 : (vs.any fun v => hasN l t v.name && !(v.text == isT l t v.name)) = vs.any fun v => !(v.text == isT l t v.name) := by
      rw [Bool.eq_iff_iff, List.any_eq_true, List.any_eq_true]
      constructor
      · rintro ⟨v, hv, h⟩
        exact ⟨v, hv, by rw [h1 v hv] at h; simpa using h⟩
      · rintro ⟨v, hv, h⟩
        exact ⟨v, hv, by rw [h1 v hv]; simpa using h⟩
    rw [if_neg h2, h3]
  · rw [if_neg ha]
    have h2 : (vs.any fun v => !(hasN l t v.name)) = true := by
      rw [List.any_eq_true]
      rw [List.all_eq_true] at ha
      apply Classical.byContradiction
      intro hc
      apply ha
      intro x hx
      obtain ⟨v, hv, rfl⟩ := List.mem_map.1 hx
      cases hh : hasN l t v.name with
      | true => rfl
      | false => exact absurd ⟨v, hv, by rw [hh]; rfl⟩ hc
    rw [if_pos h2]
def RfR (l : List Nm) (t : List Bool) (vs : List Att) (w : World) (v8 v9 v10 vi : Value) (wr : World) : Prop :=
  ∃ (j : Nat) (n0 o0 d0 : Bool), j ≤ vs.length ∧ vi = .int .i64 j ∧ v8 = .bool n0 ∧ v9 = .bool o0 ∧ v10 = .bool d0 ∧ Hid (n0 = rfNone l t vs j ∧ o0 = rfOther l t vs j ∧ d0 = rfOdd vs j) ∧ Hid (attNms (vs.take j)).Nodup ∧ Below w.heap.size w wr
def RkR (vs : List Att) (j : Nat) (x : Nm) (w : World) (vk : Value) (wr : World) : Prop :=
  ∃ k : Nat, k ≤ j ∧ vk = .int .i64 k ∧ Hid (∀ i y, i < k → vs[i]? = some y → y.name ≠ x) ∧ Below w.heap.size w wr
theorem nodup_step {vs : List Att} {j : Nat} {U : Att} (h : (attNms (vs.take j)).Nodup) (hU : vs[j]? = some U) (hn : ∀ i y, i < j → vs[i]? = some y → y.name ≠ U.name) : (attNms (vs.take (j + 1))).Nodup := by
  rw [List.take_add_one, hU]
  unfold attNms at h ⊢
  rw [List.map_append, List.nodup_append]
  refine ⟨h, by simp, ?_⟩
  intro x hx y hy e
  simp at hy
  subst hy
  subst e
  obtain ⟨v, hv, e⟩ := List.mem_map.1 hx
  obtain ⟨i, hi, e2⟩ := List.getElem_of_mem hv
  have hij : i < j := by have := hi; rw [List.length_take] at this; omega
  refine hn i v hij ?_ e
  rw [List.getElem_take] at e2
  rw [← e2]
  exact List.getElem?_eq_getElem _
theorem not_nodup {vs : List Att} {i j : Nat} {x y : Att} (h : i < j) (hi : vs[i]? = some x) (hj : vs[j]? = some y) (e : x.name = y.name) : ¬ (attNms vs).Nodup := by
  intro hd
  obtain ⟨h1, h2⟩ := List.getElem?_eq_some_iff.1 hi
  obtain ⟨h3, h4⟩ := List.getElem?_eq_some_iff.1 hj
  have := List.pairwise_iff_getElem.1 hd i j (by simpa [attNms] using h1) (by simpa [attNms] using h3) h
  apply this
  simp [attNms, h2, h4, e]
def FtEnd (l : List Nm) (t : List Bool) (vs : List Att) (w w' : World) (e : Ending) : Prop := e = .returned (.int .i64 (fitN l t vs : Nat)) ∧ Below w.heap.size w w'
set_option maxHeartbeats 20000000 in
set_option maxRecDepth 100000 in
theorem refFits_any (l : List Nm) (t : List Bool) (a0 : Option Addr) (c0 : Nat) (b0 : Option Addr) (d0 : Nat) (vs : List Att) (av : Option Addr) (cap : Nat) (w : World) (hS : SchAt w l t a0 b0) (hA : AttsAt w (Old w.heap.size) av vs) :
    Calls Tryz.prog 16 #[.slice a0 l.length c0, .slice b0 t.length d0, .slice av vs.length cap] w fun e w' => FtEnd l t vs w w' e := by
  have CS := Lib.hid (fun W h1 => refSchema_any l t a0 c0 b0 d0 W h1)
  have CF := Lib.hid (fun s W h1 h2 => find_any l t s a0 c0 b0 d0 W h1 (SchAt.nms h2) (SchAt.bls h2))
  obtain ⟨nn, hnn⟩ : ∃ x, x = l.length := ⟨_, rfl⟩
  obtain ⟨nt, hnt⟩ : ∃ x, x = t.length := ⟨_, rfl⟩
  obtain ⟨n, hn⟩ : ∃ x, x = vs.length := ⟨_, rfl⟩
  have HNN := Lib.hid hnn
  have HNT := Lib.hid hnt
  have HN := Lib.hid hn
  have hbig : n ≤ 9223372036854775807 := by have := hA.1; unfold maxLen at this; omega
  rw [← hnn, ← hnt] at CS CF ⊢
  rw [← hn]
  have HS := Lib.hid hS
  have HA := Lib.hid hA
  unfold FtEnd
  obtain ⟨res, hres⟩ : ∃ x, x = fitN l t vs := ⟨_, rfl⟩
  have HR := Lib.hid hres
  rw [← hres]
  clear hS hA hres hnn hnt hn
  go_enter Tryz.func16, Tryz.ntmps16
  go_wp2_with fail
  refine Calls.mono (CS.out _ HS.out) ?_
  rintro e w2 ⟨rfl, hb⟩
  have HB2 := Lib.hid hb
  clear hb
  cases hsb : schB l t with
  | false =>
    have HF0 := Lib.hid (show res = 1 by rw [HR.out]; unfold fitN; rw [hsb]; simp)
    go_wp2_with fail
    go_ret
    exact ⟨by rw [HF0.out]; rfl, HB2.out⟩
  | true =>
    have HSB := Lib.hid hsb
    have HNE := Lib.hid (show nn = nt by rw [HNN.out, HNT.out]; exact (sch_rising hsb).2)
    clear hsb
    by_cases h16 : 16 < n
    · have h16z : (16 : Int) < (n : Int) := by omega
      have HF0 := Lib.hid (show res = 5 by rw [HR.out]; unfold fitN; rw [if_pos HSB.out, if_pos (by have := HN.out; omega)])
      go_wp2_with fail
      go_ret
      exact ⟨by rw [HF0.out]; rfl, HB2.out⟩
    · have h16z : ¬ (16 : Int) < (n : Int) := by omega
      have H16 := Lib.hid (show ¬ 16 < vs.length by have := HN.out; omega)
      go_wp2_with fail
      go_loopw [8, 9, 10, 11] (fun v8 v9 v10 vi wr => RfR l t vs w v8 v9 v10 vi wr) (fun _ _ _ vi _ => n - (intOf vi).toNat)
      case atStart => exact ⟨0, false, false, false, Nat.zero_le _, rfl, rfl, rfl, rfl, Lib.hid ⟨by simp [rfNone], by simp [rfOther], by simp [rfOdd]⟩, Lib.hid (by simp [attNms]), HB2.out⟩
      case round =>
        obtain ⟨j, n0, o0, d1, hk, rfl, rfl, rfl, rfl, hv, hnd, hBB⟩ := hrel
        have HK := Lib.hid hk
        have HV := Lib.hid hv.out
        have HND := Lib.hid hnd.out
        have HBB := Lib.hid hBB
        clear hk hv hnd hBB
        by_cases hlt : j < n
        · have hlz : (j : Int) < (n : Int) := by omega
          have hku : j < vs.length := by rw [← HN.out]; exact hlt
          obtain ⟨g, o', hg, hgl, hc⟩ := (HA.out.later HBB.out).2.2 (by omega)
          obtain ⟨U, hU⟩ : ∃ V, V = vs[j] := ⟨_, rfl⟩
          have HUK := Lib.hid (show vs[j]? = some U by rw [hU]; exact List.getElem?_eq_getElem hku)
          have HC := Lib.hid (show ∀ W, Below wr.heap.size wr W → W.cell? ⟨g, o' + j * 4, none⟩ = some (bs U.name) ∧ W.cell? ⟨g, o' + j * 4 + 1, none⟩ = some (.bool U.text) ∧ W.cell? ⟨g, o' + j * 4 + 2, none⟩ = some (.int .i64 U.num) ∧ W.cell? ⟨g, o' + j * 4 + 3, none⟩ = some (bs U.str) by
            intro W hW
            obtain ⟨x0, x1, x2, x3⟩ := hc j hku
            rw [hU]
            exact ⟨cell_later hW x0, cell_later hW x1, cell_later hW x2, cell_later hW x3⟩)
          have HCA := Lib.hid (show ∀ (i : Nat) (h : i < vs.length) W, Below wr.heap.size wr W → W.cell? ⟨g, o' + i * 4, none⟩ = some (bs vs[i].name) from fun i h W hW => cell_later hW (hc i h).1)
          obtain ⟨s1, q1, f1⟩ := bs_bytes U.name
          obtain ⟨t1, q2, f2⟩ := bs_bytes U.str
          obtain ⟨tx, htx⟩ : ∃ x, x = U.text := ⟨_, rfl⟩
          obtain ⟨nu, hnu⟩ : ∃ x, x = U.num := ⟨_, rfl⟩
          rw [q1, q2, ← htx, ← hnu] at HC
          have HS1 := Lib.hid f1
          have HT1 := Lib.hid f2
          have HTX := Lib.hid htx
          have HNU := Lib.hid hnu
          have HT1S := Lib.hid (show t1.size ≤ 9223372036854775807 by rw [← size_list, f2]; exact (HA.out.2.1 U (List.mem_of_getElem? HUK.out)).2.1)
          subst hg
          clear hc hU q1 q2 f1 f2 hgl htx hnu
          go_wp2_with fail
          go_loopw [12] (fun vk wk => RkR vs j U.name wr vk wk) (fun vk _ => j - (intOf vk).toNat)
          case atStart => exact ⟨0, Nat.zero_le _, rfl, Lib.hid (fun i y hi => by omega), Below.refl _ _⟩
          case round =>
            obtain ⟨k, hkj, rfl, hno, hBK⟩ := hrel
            have HKJ := Lib.hid hkj
            have HNO := Lib.hid hno.out
            have HBK := Lib.hid hBK
            have HBW := Lib.hid (HBB.out.trans (hBK.mono HBB.out.size))
            clear hno hBK hkj
            by_cases hkt : k < j
            · have hkz : (k : Int) < (j : Int) := by omega
              have hkn : (k : Int) < (n : Int) := by omega
              have hkn2 : k < n := by omega
              have hkl : k < vs.length := by rw [← HN.out]; omega
              have e9 := HCA.out k hkl _ HBK.out
              obtain ⟨e0, e1, e2, e3⟩ := HC.out _ HBK.out
              obtain ⟨V, hV⟩ : ∃ V, V = vs[k] := ⟨_, rfl⟩
              have HVK := Lib.hid (show vs[k]? = some V by rw [hV]; exact List.getElem?_eq_getElem hkl)
              rw [← hV] at e9
              obtain ⟨s2, q2, f2⟩ := bs_bytes V.name
              rw [q2] at e9
              have HS2 := Lib.hid f2
              clear hV q2 f2 e1 e2 e3
              by_cases he : s2.data.toList = s1.data.toList
              · obtain rfl := eq_list he
                have HF0 := Lib.hid (show res = 10 by
                  rw [HR.out]; unfold fitN
                  rw [if_pos HSB.out, if_neg H16.out, if_pos (not_nodup hkt HVK.out HUK.out (by rw [← HS2.out, ← HS1.out]))])
                clear he
                go_wp2_with fail
                go_big_quiet (fail)
                all_goals
                  go_wp2_with fail
                  go_ret
                  exact ⟨by rw [HF0.out]; rfl, below_drewN HBW.out _⟩
              · obtain ⟨q0, q1, q2⟩ := ne_list he
                have HEN := Lib.hid he
                clear he
                go_wp2_with fail
                go_big_quiet (fail)
                all_goals
                  go_wp2_with fail
                  go_roundw
                  case rel =>
                    exact ⟨k + 1, by omega, by go_num, Lib.hid (fun i y hi hy => by
                      rcases Nat.lt_or_ge i k with h | h
                      · exact HNO.out i y h hy
                      · obtain rfl : i = k := by omega
                        rw [HVK.out] at hy
                        cases hy
                        intro e
                        exact HEN.out (by rw [HS2.out, HS1.out, e])), below_drewN HBK.out _⟩
                  case measure => simp [intOf]; omega
            · have hkz : ¬ (k : Int) < (j : Int) := by omega
              have HN1 := Lib.hid (nodup_step HND.out HUK.out (fun i y hi hy => HNO.out i y (by have := HKJ.out; omega) hy))
              obtain ⟨e0, e1, e2, e3⟩ := HC.out _ HBK.out
              have CX := Lib.hid (CF.out s1 wr HNE.out (HS.out.fit HBW.out))
              obtain ⟨x, hx⟩ : ∃ x, x = fnd l t s1.data.toList := ⟨_, rfl⟩
              rw [← hx] at CX
              have HX := Lib.hid (show x = fnd l t U.name by rw [hx, HS1.out])
              obtain ⟨pl, hpl⟩ : ∃ x, x = plainB t1.data.toList := ⟨_, rfl⟩
              have CP := Lib.hid (fun W => refPlain_any t1 HT1S.out W)
              rw [← hpl] at CP
              have H8 := Lib.hid (show rfNone l t vs (j + 1) = (n0 || decide (x < 0)) by
                unfold rfNone
                rw [any_step HUK.out, HV.out.1]
                unfold rfNone hasN
                rw [← HX.out]
                congr 1
                rw [← decide_not]
                exact decide_eq_decide.2 (by omega))
              have H9 := Lib.hid (show rfOther l t vs (j + 1) = (o0 || (decide (0 ≤ x) && !(tx == decide (x = 1)))) by
                unfold rfOther
                rw [any_step HUK.out, HV.out.2.1]
                unfold rfOther hasN isT
                rw [← HX.out, HTX.out])
              have H10 := Lib.hid (show rfOdd vs (j + 1) = (d1 || (if tx then !(nu == 0 && pl) else !(t1.data.toList == []))) by
                unfold rfOdd
                rw [any_step HUK.out, HV.out.2.2, odd_eq U pl (by rw [hpl, HT1.out]), HTX.out, HNU.out, HT1.out]
                rfl)
              have hxr : x = -1 ∨ x = 0 ∨ x = 1 := by rw [HX.out]; exact fnd_range _ _ _
              have hxq : decide (x = 1) = (x == 1) := by rcases hxr with h | h | h <;> rw [h] <;> rfl
              have hxq := Lib.hid hxq
              clear hx hpl
              cases n0 with
              | true =>
                cases o0 with
                | true =>
                  cases d1 with
                  | true =>
                    go_wp2_with (first
                      | (go_at_call 29; refine Calls.mono CX.out ?_; rintro e w5 ⟨rfl, rfl⟩)
                      | (go_at_call 36; refine Calls.mono (CP.out _) ?_; rintro e w6 ⟨rfl, rfl⟩))
                    go_roundw
                    case rel =>
                      exact ⟨j + 1, _, _, _, by have := HN.out; omega, by go_num, rfl, rfl, rfl, Lib.hid ⟨by rw [H8.out]; simp , by rw [H9.out]; simp, by rw [H10.out]; simp ⟩, HN1, HBW.out⟩
                    case measure => simp [intOf]; omega
                  | false =>
                    cases tx with
                    | true =>
                      by_cases hnu : nu = 0
                      · subst hnu
                        cases pl with
                        | true =>
                          go_wp2_with (first
                            | (go_at_call 29; refine Calls.mono CX.out ?_; rintro e w5 ⟨rfl, rfl⟩)
                            | (go_at_call 36; refine Calls.mono (CP.out _) ?_; rintro e w6 ⟨rfl, rfl⟩))
                          go_roundw
                          case rel =>
                            exact ⟨j + 1, _, _, _, by have := HN.out; omega, by go_num, rfl, rfl, rfl, Lib.hid ⟨by rw [H8.out]; simp , by rw [H9.out]; simp, by rw [H10.out]; simp ⟩, HN1, HBW.out⟩
                          case measure => simp [intOf]; omega
                        | false =>
                          go_wp2_with (first
                            | (go_at_call 29; refine Calls.mono CX.out ?_; rintro e w5 ⟨rfl, rfl⟩)
                            | (go_at_call 36; refine Calls.mono (CP.out _) ?_; rintro e w6 ⟨rfl, rfl⟩))
                          go_roundw
                          case rel =>
                            exact ⟨j + 1, _, _, _, by have := HN.out; omega, by go_num, rfl, rfl, rfl, Lib.hid ⟨by rw [H8.out]; simp , by rw [H9.out]; simp, by rw [H10.out]; simp ⟩, HN1, HBW.out⟩
                          case measure => simp [intOf]; omega
                      · have hnb : (nu == 0) = false := by simpa using hnu
                        have hnc : (nu != 0) = true := by simp [hnu]
                        go_wp2_with (first
                          | (go_at_call 29; refine Calls.mono CX.out ?_; rintro e w5 ⟨rfl, rfl⟩)
                          | (go_at_call 36; refine Calls.mono (CP.out _) ?_; rintro e w6 ⟨rfl, rfl⟩))
                        go_roundw
                        case rel =>
                          exact ⟨j + 1, _, _, _, by have := HN.out; omega, by go_num, rfl, rfl, rfl, Lib.hid ⟨by rw [H8.out]; simp , by rw [H9.out]; simp, by rw [H10.out]; simp [hnu]⟩, HN1, HBW.out⟩
                        case measure => simp [intOf]; omega
                    | false =>
                      go_wp2_with (first
                        | (go_at_call 29; refine Calls.mono CX.out ?_; rintro e w5 ⟨rfl, rfl⟩)
                        | (go_at_call 36; refine Calls.mono (CP.out _) ?_; rintro e w6 ⟨rfl, rfl⟩))
                      go_roundw
                      case rel =>
                        exact ⟨j + 1, _, _, _, by have := HN.out; omega, by go_num, rfl, rfl, rfl, Lib.hid ⟨by rw [H8.out]; simp , by rw [H9.out]; simp, by rw [H10.out]; simp [Lib.toList_data]⟩, HN1, HBW.out⟩
                      case measure => simp [intOf]; omega
                | false =>
                  by_cases hx0 : x < 0
                  · have hx1 : ¬ (0 : Int) ≤ x := by omega
                    have HX1 := Lib.hid hx1
                    cases d1 with
                    | true =>
                      go_wp2_with (first
                        | (go_at_call 29; refine Calls.mono CX.out ?_; rintro e w5 ⟨rfl, rfl⟩)
                        | (go_at_call 36; refine Calls.mono (CP.out _) ?_; rintro e w6 ⟨rfl, rfl⟩))
                      go_roundw
                      case rel =>
                        exact ⟨j + 1, _, _, _, by have := HN.out; omega, by go_num, rfl, rfl, rfl, Lib.hid ⟨by rw [H8.out]; simp [hx0], by rw [H9.out, decide_eq_false (show ¬ (0 : Int) ≤ x by omega)]; simp, by rw [H10.out]; simp ⟩, HN1, HBW.out⟩
                      case measure => simp [intOf]; omega
                    | false =>
                      cases tx with
                      | true =>
                        by_cases hnu : nu = 0
                        · subst hnu
                          cases pl with
                          | true =>
                            go_wp2_with (first
                              | (go_at_call 29; refine Calls.mono CX.out ?_; rintro e w5 ⟨rfl, rfl⟩)
                              | (go_at_call 36; refine Calls.mono (CP.out _) ?_; rintro e w6 ⟨rfl, rfl⟩))
                            go_roundw
                            case rel =>
                              exact ⟨j + 1, _, _, _, by have := HN.out; omega, by go_num, rfl, rfl, rfl, Lib.hid ⟨by rw [H8.out]; simp [hx0], by rw [H9.out, decide_eq_false (show ¬ (0 : Int) ≤ x by omega)]; simp, by rw [H10.out]; simp ⟩, HN1, HBW.out⟩
                            case measure => simp [intOf]; omega
                          | false =>
                            go_wp2_with (first
                              | (go_at_call 29; refine Calls.mono CX.out ?_; rintro e w5 ⟨rfl, rfl⟩)
                              | (go_at_call 36; refine Calls.mono (CP.out _) ?_; rintro e w6 ⟨rfl, rfl⟩))
                            go_roundw
                            case rel =>
                              exact ⟨j + 1, _, _, _, by have := HN.out; omega, by go_num, rfl, rfl, rfl, Lib.hid ⟨by rw [H8.out]; simp [hx0], by rw [H9.out, decide_eq_false (show ¬ (0 : Int) ≤ x by omega)]; simp, by rw [H10.out]; simp ⟩, HN1, HBW.out⟩
                            case measure => simp [intOf]; omega
                        · have hnb : (nu == 0) = false := by simpa using hnu
                          have hnc : (nu != 0) = true := by simp [hnu]
                          go_wp2_with (first
                            | (go_at_call 29; refine Calls.mono CX.out ?_; rintro e w5 ⟨rfl, rfl⟩)
                            | (go_at_call 36; refine Calls.mono (CP.out _) ?_; rintro e w6 ⟨rfl, rfl⟩))
                          go_roundw
                          case rel =>
                            exact ⟨j + 1, _, _, _, by have := HN.out; omega, by go_num, rfl, rfl, rfl, Lib.hid ⟨by rw [H8.out]; simp [hx0], by rw [H9.out, decide_eq_false (show ¬ (0 : Int) ≤ x by omega)]; simp, by rw [H10.out]; simp [hnu]⟩, HN1, HBW.out⟩
                          case measure => simp [intOf]; omega
                      | false =>
                        go_wp2_with (first
                          | (go_at_call 29; refine Calls.mono CX.out ?_; rintro e w5 ⟨rfl, rfl⟩)
                          | (go_at_call 36; refine Calls.mono (CP.out _) ?_; rintro e w6 ⟨rfl, rfl⟩))
                        go_roundw
                        case rel =>
                          exact ⟨j + 1, _, _, _, by have := HN.out; omega, by go_num, rfl, rfl, rfl, Lib.hid ⟨by rw [H8.out]; simp [hx0], by rw [H9.out, decide_eq_false (show ¬ (0 : Int) ≤ x by omega)]; simp, by rw [H10.out]; simp [Lib.toList_data]⟩, HN1, HBW.out⟩
                        case measure => simp [intOf]; omega
                  · have hx1 : (0 : Int) ≤ x := by omega
                    have HX1 := Lib.hid hx1
                    cases d1 with
                    | true =>
                      go_wp2_with (first
                        | (go_at_call 29; refine Calls.mono CX.out ?_; rintro e w5 ⟨rfl, rfl⟩)
                        | (go_at_call 36; refine Calls.mono (CP.out _) ?_; rintro e w6 ⟨rfl, rfl⟩))
                      go_roundw
                      case rel =>
                        exact ⟨j + 1, _, _, _, by have := HN.out; omega, by go_num, rfl, rfl, rfl, Lib.hid ⟨by rw [H8.out]; simp [hx0], by rw [H9.out, decide_eq_true (show (0 : Int) ≤ x by omega), hxq.out]; simp, by rw [H10.out]; simp ⟩, HN1, HBW.out⟩
                      case measure => simp [intOf]; omega
                    | false =>
                      cases tx with
                      | true =>
                        by_cases hnu : nu = 0
                        · subst hnu
                          cases pl with
                          | true =>
                            go_wp2_with (first
                              | (go_at_call 29; refine Calls.mono CX.out ?_; rintro e w5 ⟨rfl, rfl⟩)
                              | (go_at_call 36; refine Calls.mono (CP.out _) ?_; rintro e w6 ⟨rfl, rfl⟩))
                            go_roundw
                            case rel =>
                              exact ⟨j + 1, _, _, _, by have := HN.out; omega, by go_num, rfl, rfl, rfl, Lib.hid ⟨by rw [H8.out]; simp [hx0], by rw [H9.out, decide_eq_true (show (0 : Int) ≤ x by omega), hxq.out]; simp, by rw [H10.out]; simp ⟩, HN1, HBW.out⟩
                            case measure => simp [intOf]; omega
                          | false =>
                            go_wp2_with (first
                              | (go_at_call 29; refine Calls.mono CX.out ?_; rintro e w5 ⟨rfl, rfl⟩)
                              | (go_at_call 36; refine Calls.mono (CP.out _) ?_; rintro e w6 ⟨rfl, rfl⟩))
                            go_roundw
                            case rel =>
                              exact ⟨j + 1, _, _, _, by have := HN.out; omega, by go_num, rfl, rfl, rfl, Lib.hid ⟨by rw [H8.out]; simp [hx0], by rw [H9.out, decide_eq_true (show (0 : Int) ≤ x by omega), hxq.out]; simp, by rw [H10.out]; simp ⟩, HN1, HBW.out⟩
                            case measure => simp [intOf]; omega
                        · have hnb : (nu == 0) = false := by simpa using hnu
                          have hnc : (nu != 0) = true := by simp [hnu]
                          go_wp2_with (first
                            | (go_at_call 29; refine Calls.mono CX.out ?_; rintro e w5 ⟨rfl, rfl⟩)
                            | (go_at_call 36; refine Calls.mono (CP.out _) ?_; rintro e w6 ⟨rfl, rfl⟩))
                          go_roundw
                          case rel =>
                            exact ⟨j + 1, _, _, _, by have := HN.out; omega, by go_num, rfl, rfl, rfl, Lib.hid ⟨by rw [H8.out]; simp [hx0], by rw [H9.out, decide_eq_true (show (0 : Int) ≤ x by omega), hxq.out]; simp, by rw [H10.out]; simp [hnu]⟩, HN1, HBW.out⟩
                          case measure => simp [intOf]; omega
                      | false =>
                        go_wp2_with (first
                          | (go_at_call 29; refine Calls.mono CX.out ?_; rintro e w5 ⟨rfl, rfl⟩)
                          | (go_at_call 36; refine Calls.mono (CP.out _) ?_; rintro e w6 ⟨rfl, rfl⟩))
                        go_roundw
                        case rel =>
                          exact ⟨j + 1, _, _, _, by have := HN.out; omega, by go_num, rfl, rfl, rfl, Lib.hid ⟨by rw [H8.out]; simp [hx0], by rw [H9.out, decide_eq_true (show (0 : Int) ≤ x by omega), hxq.out]; simp, by rw [H10.out]; simp [Lib.toList_data]⟩, HN1, HBW.out⟩
                        case measure => simp [intOf]; omega
              | false =>
                cases o0 with
                | true =>
                  cases d1 with
                  | true =>
                    go_wp2_with (first
                      | (go_at_call 29; refine Calls.mono CX.out ?_; rintro e w5 ⟨rfl, rfl⟩)
                      | (go_at_call 36; refine Calls.mono (CP.out _) ?_; rintro e w6 ⟨rfl, rfl⟩))
                    go_roundw
                    case rel =>
                      exact ⟨j + 1, _, _, _, by have := HN.out; omega, by go_num, rfl, rfl, rfl, Lib.hid ⟨by rw [H8.out]; simp , by rw [H9.out]; simp, by rw [H10.out]; simp ⟩, HN1, HBW.out⟩
                    case measure => simp [intOf]; omega
                  | false =>
                    cases tx with
                    | true =>
                      by_cases hnu : nu = 0
                      · subst hnu
                        cases pl with
                        | true =>
                          go_wp2_with (first
                            | (go_at_call 29; refine Calls.mono CX.out ?_; rintro e w5 ⟨rfl, rfl⟩)
                            | (go_at_call 36; refine Calls.mono (CP.out _) ?_; rintro e w6 ⟨rfl, rfl⟩))
                          go_roundw
                          case rel =>
                            exact ⟨j + 1, _, _, _, by have := HN.out; omega, by go_num, rfl, rfl, rfl, Lib.hid ⟨by rw [H8.out]; simp , by rw [H9.out]; simp, by rw [H10.out]; simp ⟩, HN1, HBW.out⟩
                          case measure => simp [intOf]; omega
                        | false =>
                          go_wp2_with (first
                            | (go_at_call 29; refine Calls.mono CX.out ?_; rintro e w5 ⟨rfl, rfl⟩)
                            | (go_at_call 36; refine Calls.mono (CP.out _) ?_; rintro e w6 ⟨rfl, rfl⟩))
                          go_roundw
                          case rel =>
                            exact ⟨j + 1, _, _, _, by have := HN.out; omega, by go_num, rfl, rfl, rfl, Lib.hid ⟨by rw [H8.out]; simp , by rw [H9.out]; simp, by rw [H10.out]; simp ⟩, HN1, HBW.out⟩
                          case measure => simp [intOf]; omega
                      · have hnb : (nu == 0) = false := by simpa using hnu
                        have hnc : (nu != 0) = true := by simp [hnu]
                        go_wp2_with (first
                          | (go_at_call 29; refine Calls.mono CX.out ?_; rintro e w5 ⟨rfl, rfl⟩)
                          | (go_at_call 36; refine Calls.mono (CP.out _) ?_; rintro e w6 ⟨rfl, rfl⟩))
                        go_roundw
                        case rel =>
                          exact ⟨j + 1, _, _, _, by have := HN.out; omega, by go_num, rfl, rfl, rfl, Lib.hid ⟨by rw [H8.out]; simp , by rw [H9.out]; simp, by rw [H10.out]; simp [hnu]⟩, HN1, HBW.out⟩
                        case measure => simp [intOf]; omega
                    | false =>
                      go_wp2_with (first
                        | (go_at_call 29; refine Calls.mono CX.out ?_; rintro e w5 ⟨rfl, rfl⟩)
                        | (go_at_call 36; refine Calls.mono (CP.out _) ?_; rintro e w6 ⟨rfl, rfl⟩))
                      go_roundw
                      case rel =>
                        exact ⟨j + 1, _, _, _, by have := HN.out; omega, by go_num, rfl, rfl, rfl, Lib.hid ⟨by rw [H8.out]; simp , by rw [H9.out]; simp, by rw [H10.out]; simp [Lib.toList_data]⟩, HN1, HBW.out⟩
                      case measure => simp [intOf]; omega
                | false =>
                  by_cases hx0 : x < 0
                  · have hx1 : ¬ (0 : Int) ≤ x := by omega
                    have HX1 := Lib.hid hx1
                    cases d1 with
                    | true =>
                      go_wp2_with (first
                        | (go_at_call 29; refine Calls.mono CX.out ?_; rintro e w5 ⟨rfl, rfl⟩)
                        | (go_at_call 36; refine Calls.mono (CP.out _) ?_; rintro e w6 ⟨rfl, rfl⟩))
                      go_roundw
                      case rel =>
                        exact ⟨j + 1, _, _, _, by have := HN.out; omega, by go_num, rfl, rfl, rfl, Lib.hid ⟨by rw [H8.out]; simp [hx0], by rw [H9.out, decide_eq_false (show ¬ (0 : Int) ≤ x by omega)]; simp, by rw [H10.out]; simp ⟩, HN1, HBW.out⟩
                      case measure => simp [intOf]; omega
                    | false =>
                      cases tx with
                      | true =>
                        by_cases hnu : nu = 0
                        · subst hnu
                          cases pl with
                          | true =>
                            go_wp2_with (first
                              | (go_at_call 29; refine Calls.mono CX.out ?_; rintro e w5 ⟨rfl, rfl⟩)
                              | (go_at_call 36; refine Calls.mono (CP.out _) ?_; rintro e w6 ⟨rfl, rfl⟩))
                            go_roundw
                            case rel =>
                              exact ⟨j + 1, _, _, _, by have := HN.out; omega, by go_num, rfl, rfl, rfl, Lib.hid ⟨by rw [H8.out]; simp [hx0], by rw [H9.out, decide_eq_false (show ¬ (0 : Int) ≤ x by omega)]; simp, by rw [H10.out]; simp ⟩, HN1, HBW.out⟩
                            case measure => simp [intOf]; omega
                          | false =>
                            go_wp2_with (first
                              | (go_at_call 29; refine Calls.mono CX.out ?_; rintro e w5 ⟨rfl, rfl⟩)
                              | (go_at_call 36; refine Calls.mono (CP.out _) ?_; rintro e w6 ⟨rfl, rfl⟩))
                            go_roundw
                            case rel =>
                              exact ⟨j + 1, _, _, _, by have := HN.out; omega, by go_num, rfl, rfl, rfl, Lib.hid ⟨by rw [H8.out]; simp [hx0], by rw [H9.out, decide_eq_false (show ¬ (0 : Int) ≤ x by omega)]; simp, by rw [H10.out]; simp ⟩, HN1, HBW.out⟩
                            case measure => simp [intOf]; omega
                        · have hnb : (nu == 0) = false := by simpa using hnu
                          have hnc : (nu != 0) = true := by simp [hnu]
                          go_wp2_with (first
                            | (go_at_call 29; refine Calls.mono CX.out ?_; rintro e w5 ⟨rfl, rfl⟩)
                            | (go_at_call 36; refine Calls.mono (CP.out _) ?_; rintro e w6 ⟨rfl, rfl⟩))
                          go_roundw
                          case rel =>
                            exact ⟨j + 1, _, _, _, by have := HN.out; omega, by go_num, rfl, rfl, rfl, Lib.hid ⟨by rw [H8.out]; simp [hx0], by rw [H9.out, decide_eq_false (show ¬ (0 : Int) ≤ x by omega)]; simp, by rw [H10.out]; simp [hnu]⟩, HN1, HBW.out⟩
                          case measure => simp [intOf]; omega
                      | false =>
                        go_wp2_with (first
                          | (go_at_call 29; refine Calls.mono CX.out ?_; rintro e w5 ⟨rfl, rfl⟩)
                          | (go_at_call 36; refine Calls.mono (CP.out _) ?_; rintro e w6 ⟨rfl, rfl⟩))
                        go_roundw
                        case rel =>
                          exact ⟨j + 1, _, _, _, by have := HN.out; omega, by go_num, rfl, rfl, rfl, Lib.hid ⟨by rw [H8.out]; simp [hx0], by rw [H9.out, decide_eq_false (show ¬ (0 : Int) ≤ x by omega)]; simp, by rw [H10.out]; simp [Lib.toList_data]⟩, HN1, HBW.out⟩
                        case measure => simp [intOf]; omega
                  · have hx1 : (0 : Int) ≤ x := by omega
                    have HX1 := Lib.hid hx1
                    cases d1 with
                    | true =>
                      go_wp2_with (first
                        | (go_at_call 29; refine Calls.mono CX.out ?_; rintro e w5 ⟨rfl, rfl⟩)
                        | (go_at_call 36; refine Calls.mono (CP.out _) ?_; rintro e w6 ⟨rfl, rfl⟩))
                      go_roundw
                      case rel =>
                        exact ⟨j + 1, _, _, _, by have := HN.out; omega, by go_num, rfl, rfl, rfl, Lib.hid ⟨by rw [H8.out]; simp [hx0], by rw [H9.out, decide_eq_true (show (0 : Int) ≤ x by omega), hxq.out]; simp, by rw [H10.out]; simp ⟩, HN1, HBW.out⟩
                      case measure => simp [intOf]; omega
                    | false =>
                      cases tx with
                      | true =>
                        by_cases hnu : nu = 0
                        · subst hnu
                          cases pl with
                          | true =>
                            go_wp2_with (first
                              | (go_at_call 29; refine Calls.mono CX.out ?_; rintro e w5 ⟨rfl, rfl⟩)
                              | (go_at_call 36; refine Calls.mono (CP.out _) ?_; rintro e w6 ⟨rfl, rfl⟩))
                            go_roundw
                            case rel =>
                              exact ⟨j + 1, _, _, _, by have := HN.out; omega, by go_num, rfl, rfl, rfl, Lib.hid ⟨by rw [H8.out]; simp [hx0], by rw [H9.out, decide_eq_true (show (0 : Int) ≤ x by omega), hxq.out]; simp, by rw [H10.out]; simp ⟩, HN1, HBW.out⟩
                            case measure => simp [intOf]; omega
                          | false =>
                            go_wp2_with (first
                              | (go_at_call 29; refine Calls.mono CX.out ?_; rintro e w5 ⟨rfl, rfl⟩)
                              | (go_at_call 36; refine Calls.mono (CP.out _) ?_; rintro e w6 ⟨rfl, rfl⟩))
                            go_roundw
                            case rel =>
                              exact ⟨j + 1, _, _, _, by have := HN.out; omega, by go_num, rfl, rfl, rfl, Lib.hid ⟨by rw [H8.out]; simp [hx0], by rw [H9.out, decide_eq_true (show (0 : Int) ≤ x by omega), hxq.out]; simp, by rw [H10.out]; simp ⟩, HN1, HBW.out⟩
                            case measure => simp [intOf]; omega
                        · have hnb : (nu == 0) = false := by simpa using hnu
                          have hnc : (nu != 0) = true := by simp [hnu]
                          go_wp2_with (first
                            | (go_at_call 29; refine Calls.mono CX.out ?_; rintro e w5 ⟨rfl, rfl⟩)
                            | (go_at_call 36; refine Calls.mono (CP.out _) ?_; rintro e w6 ⟨rfl, rfl⟩))
                          go_roundw
                          case rel =>
                            exact ⟨j + 1, _, _, _, by have := HN.out; omega, by go_num, rfl, rfl, rfl, Lib.hid ⟨by rw [H8.out]; simp [hx0], by rw [H9.out, decide_eq_true (show (0 : Int) ≤ x by omega), hxq.out]; simp, by rw [H10.out]; simp [hnu]⟩, HN1, HBW.out⟩
                          case measure => simp [intOf]; omega
                      | false =>
                        go_wp2_with (first
                          | (go_at_call 29; refine Calls.mono CX.out ?_; rintro e w5 ⟨rfl, rfl⟩)
                          | (go_at_call 36; refine Calls.mono (CP.out _) ?_; rintro e w6 ⟨rfl, rfl⟩))
                        go_roundw
                        case rel =>
                          exact ⟨j + 1, _, _, _, by have := HN.out; omega, by go_num, rfl, rfl, rfl, Lib.hid ⟨by rw [H8.out]; simp [hx0], by rw [H9.out, decide_eq_true (show (0 : Int) ≤ x by omega), hxq.out]; simp, by rw [H10.out]; simp [Lib.toList_data]⟩, HN1, HBW.out⟩
                        case measure => simp [intOf]; omega
        · have hlz : ¬ (j : Int) < (n : Int) := by omega
          have HE := Lib.hid (show res = if n0 = true then 9 else if o0 = true then 4 else if d1 = true then 1 else 0 by
            have e : j = vs.length := by have := HN.out; have := HK.out; omega
            have h := HND.out
            rw [e, List.take_length] at h
            rw [HR.out, rf_end HSB.out H16.out h, HV.out.1, HV.out.2.1, HV.out.2.2, e])
          cases n0 with
          | true =>
            go_wp2_with fail
            go_ret
            exact ⟨by rw [HE.out]; rfl, HBB.out⟩
          | false =>
            cases o0 with
            | true =>
              go_wp2_with fail
              go_ret
              exact ⟨by rw [HE.out]; rfl, HBB.out⟩
            | false =>
              cases d1 with
              | true =>
                go_wp2_with fail
                go_ret
                exact ⟨by rw [HE.out]; rfl, HBB.out⟩
              | false =>
                go_wp2_with fail
                go_ret
                exact ⟨by rw [HE.out]; rfl, HBB.out⟩
end Go.Proofs.YtmfkpoojfpepaaaGreatDoor.Ck
/-
  The walk of CheckFits: it returns true. Memory that was there is left as it was.
-/
namespace Go.Proofs.YtmfkpoojfpepaaaGreatDoor.Ck
open Go.RowKit Go.Maps Go.Proofs.YtmfkpoojfpepaaaGreatDoor.Fl Go.Proofs.YtmfkpoojfpepaaaGreatDoor.Tk
set_option linter.unusedVariables false
set_option linter.unusedSimpArgs false

theorem code_err (n : Nat) (h : n ≤ 12) (w : World) : Calls Tryz.prog 11 #[errV n] w fun e w' => e = .returned (.int .i64 (n : Nat)) ∧ w = w' := by
  by_cases h0 : n = 0
  · subst h0
    exact Cn.code_nil w
  · unfold errV
    rw [if_neg h0]
    exact Cn.code_any n (by omega) h w
theorem errV_not (n : Nat) : ∃ v, errV n = v := ⟨_, rfl⟩
set_option maxHeartbeats 4000000 in
set_option maxRecDepth 100000 in
theorem fits_walk (l : List Nm) (a : Option Addr) (c : Nat) (t : List Bool) (b : Option Addr) (d : Nat) (vs : List Att) (av : Option Addr) (cap : Nat) (w : World) (hE : LaidE w) (hL : NmsAt w (Old w.heap.size) a l) (hT : BlsAt w (Old w.heap.size) b t) (hA : AttsAt w (Old w.heap.size) av vs) :
    Calls Tryz.prog 4 #[.slice a l.length c, .slice b t.length d, .slice av vs.length cap] w fun e w' => e = .returned (.bool true) ∧ Below w.heap.size w w' := by
  have HE := Lib.hid hE
  have HL := Lib.hid hL
  have HT := Lib.hid hT
  have HA := Lib.hid hA
  have CU := Lib.hid (up_any w hE)
  have CA := Lib.hid (fun W h => attrs_any vs av cap W h)
  have CS := Lib.hid (fun W h1 h2 => small_any l t a c b d W h1 h2)
  have CF := Lib.hid (fun W h1 h2 h3 => fits_any l t a c b d vs av cap W h1 h2 h3)
  have CR := Lib.hid (fun W h1 h2 => refFits_any l t a c b d vs av cap W h1 h2)
  obtain ⟨nn, hnn⟩ : ∃ x, x = l.length := ⟨_, rfl⟩
  obtain ⟨nt, hnt⟩ : ∃ x, x = t.length := ⟨_, rfl⟩
  obtain ⟨n, hn⟩ : ∃ x, x = vs.length := ⟨_, rfl⟩
  rw [← hn] at CA CF CR ⊢
  rw [← hnn, ← hnt] at CS CF CR ⊢
  have HK := Lib.hid (show fitN l t vs ≤ 12 by have := fit_codes l t vs; omega)
  have CC := Lib.hid (fun W => code_err (fitN l t vs) HK.out W)
  obtain ⟨ev, hev⟩ : ∃ v, v = errV (fitN l t vs) := ⟨_, rfl⟩
  unfold FtEnd at CR
  obtain ⟨res, hres⟩ : ∃ x, x = fitN l t vs := ⟨_, rfl⟩
  rw [← hev] at CF CC
  rw [← hres] at CC CR
  clear hE hL hT hA hnn hnt hn hev hres
  go_enter Tryz.func4, Tryz.ntmps4
  go_wp2_with fail
  refine Calls.mono CU.out ?_
  rintro e w1 ⟨rfl, hb⟩
  have B1 := Lib.hid hb
  clear hb
  go_wp2_with fail
  refine Calls.mono (CA.out _ (attsFit HA.out B1.out B1.out.size)) ?_
  rintro e w2 ⟨⟨r, rfl⟩, rfl⟩
  cases r with
  | false =>
    go_wp2_with fail
    go_ret
    exact ⟨rfl, B1.out⟩
  | true =>
    go_wp2_with fail
    refine Calls.mono (CS.out _ (HL.out.fit B1.out B1.out.size) (HT.out.fit B1.out B1.out.size)) ?_
    rintro e w2 ⟨⟨r, rfl, hr⟩, rfl⟩
    cases r with
    | false =>
      go_wp2_with fail
      go_ret
      exact ⟨rfl, B1.out⟩
    | true =>
      have HS := Lib.hid (show SchAt w1 l t a b from ⟨by have := (hr rfl).1; omega, HL.out.fit B1.out B1.out.size, HT.out.fit B1.out B1.out.size⟩)
      clear hr
      go_wp2_with fail
      refine Calls.mono (CF.out _ (HE.out.later B1.out) HS.out (attsFit HA.out B1.out B1.out.size)) ?_
      rintro e w3 ⟨rfl, hb⟩
      have B3 := Lib.hid (B1.out.trans (hb.mono B1.out.size))
      have HS3 := Lib.hid (HS.out.fit hb)
      clear hb
      go_wp2_with fail
      refine Calls.mono (CC.out _) ?_
      rintro e w4 ⟨rfl, rfl⟩
      go_wp2_with fail
      refine Calls.mono (CR.out _ HS3.out (attsFit HA.out B3.out B3.out.size)) ?_
      rintro e w5 ⟨rfl, hb⟩
      have B5 := Lib.hid (B3.out.trans (hb.mono B3.out.size))
      clear hb
      go_wp2_with fail
      go_ret
      exact ⟨by simp, B5.out⟩
end Go.Proofs.YtmfkpoojfpepaaaGreatDoor.Ck
namespace Go.Proofs.YtmfkpoojfpepaaaGreatDoor.Ck
open Go.RowKit Go.Maps Go.Proofs.YtmfkpoojfpepaaaGreatDoor.Fl Go.Proofs.YtmfkpoojfpepaaaGreatDoor.Tk
set_option linter.unusedVariables false
set_option linter.unusedSimpArgs false

set_option maxHeartbeats 20000000 in
set_option maxRecDepth 100000 in
theorem tells_walk (l : List Nm) (a : Option Addr) (c : Nat) (t : List Bool) (b : Option Addr) (d : Nat) (f : Flt) (fa : Option Addr) (fc : Nat) (fb : Option Addr) (fd : Nat) (w : World) (hE : LaidE w) (hL : NmsAt w (Old w.heap.size) a l) (hT : BlsAt w (Old w.heap.size) b t) (hF : FltAt w (Old w.heap.size) f fa fb) (h2 : (nms f).length ≤ 2000000) (h40 : ∀ x ∈ nms f, x.length ≤ 281474976710656) :
    Calls Tryz.prog 3 #[.slice a l.length c, .slice b t.length d, .agg #[.int .i64 f.kind, bs f.name, bs f.op, .slice fa f.vals.length fc, .slice fb f.parts.length fd]] w fun e w' => e = .returned (.bool true) ∧ Below w.heap.size w w' := by
  have HE := Lib.hid hE
  have HL := Lib.hid hL
  have HT := Lib.hid hT
  have HF := Lib.hid hF
  have CU := Lib.hid (fun W h => up_any W h)
  have CW := Lib.hid (fun W h => few_any f fa fc fb fd W h)
  have CS := Lib.hid (fun W h1 h2 => small_any l t a c b d W h1 h2)
  have CK := Lib.hid (fun W h1 h2 h3 => check_any l t a c b d f fa fc fb fd W h1 h2 h3)
  have CR := Lib.hid (fun W h1 h2 h3 => refCheck_any l t a c b d f fa fc fb fd W h1 h2 h3)
  have CM := Lib.hid (fun W h1 => names_any f fa fc fb fd W h1 h2 h40)
  have CN := Lib.hid (fun W h1 => refNames_any f fa fc fb fd W h1 h2 h40)
  obtain ⟨sn, en, _⟩ := bs_bytes f.name
  obtain ⟨so, eo, _⟩ := bs_bytes f.op
  rw [en, eo] at CW CK CR CM CN ⊢
  obtain ⟨k, hk⟩ : ∃ x, x = f.kind := ⟨_, rfl⟩
  obtain ⟨nv, hnv⟩ : ∃ x, x = f.vals.length := ⟨_, rfl⟩
  obtain ⟨np, hnp⟩ : ∃ x, x = f.parts.length := ⟨_, rfl⟩
  obtain ⟨nn, hnn⟩ : ∃ x, x = l.length := ⟨_, rfl⟩
  obtain ⟨nt, hnt⟩ : ∃ x, x = t.length := ⟨_, rfl⟩
  rw [← hk, ← hnv, ← hnp] at CW CK CR CM CN ⊢
  rw [← hnn, ← hnt] at CS CK CR ⊢
  have HK := Lib.hid (show chkN l t f ≤ 12 by have := chk_codes l t f; omega)
  have CC := Lib.hid (fun W => code_err (chkN l t f) HK.out W)
  obtain ⟨ev, hev⟩ : ∃ v, v = errV (chkN l t f) := ⟨_, rfl⟩
  unfold RcEnd at CR
  obtain ⟨res, hres⟩ : ∃ x, x = chkN l t f := ⟨_, rfl⟩
  rw [← hev] at CK CC
  rw [← hres] at CC CR
  have HSN := Lib.hid (show (∀ s ∈ sortN (nms f), s.length ≤ maxLen) ∧ (sortN (nms f)).length ≤ maxLen from ⟨fun s hs => by rw [mem_sortN] at hs; have := h40 s hs; unfold maxLen; omega, by have := length_sortN (nms f); unfold maxLen; omega⟩)
  obtain ⟨N, hN⟩ : ∃ x, x = sortN (nms f) := ⟨_, rfl⟩
  rw [← hN] at CM CN HSN
  clear hE hL hT hF en eo hk hnv hnp hnn hnt hev hres hN h2 h40
  obtain ⟨w1, hw1⟩ : ∃ v, v = w.alloc (.cells #[.int .i64 k, .string sn, .string so, .slice fa nv fc, .slice fb np fd] 27) := ⟨_, rfl⟩
  have Y1 := Lib.hid (show Box w1 w.heap.size (.int .i64 k) (.string sn) (.string so) (.slice fa nv fc) (.slice fb np fd) by rw [hw1]; exact Box.new ..)
  have HB := Lib.hid (show Below w.heap.size w w1 by rw [hw1]; exact (Below.refl _ _).alloc (Nat.le_refl _) _)
  have HW := Lib.hid hw1
  clear hw1
  go_enter Tryz.func3, Tryz.ntmps3
  go_wp2_with fail
  rw [← HW.out]
  refine Calls.mono (CU.out _ (HE.out.later HB.out)) ?_
  rintro e w2 ⟨rfl, hb⟩
  have B2 := Lib.hid (HB.out.trans (hb.mono HB.out.size))
  have Y2 := Lib.hid (Y1.out.later hb)
  obtain ⟨p0, p1, p2, p3, p4⟩ := Y2.out
  clear hb
  go_wp2_with fail
  refine Calls.mono (CW.out _ (fit_flt HF.out B2.out)) ?_
  rintro e w3 ⟨⟨r, rfl, hr5⟩, hb⟩
  have B3 := Lib.hid (B2.out.trans (hb.mono B2.out.size))
  have Y3 := Lib.hid (Y2.out.later hb)
  have H5 := Lib.hid hr5
  clear hb hr5 p0 p1 p2 p3 p4
  cases r with
  | false =>
    go_wp2_with fail
    go_ret
    exact ⟨rfl, B3.out⟩
  | true =>
    have H5K := Lib.hid (H5.out rfl)
    go_wp2_with fail
    refine Calls.mono (CS.out _ (HL.out.fit B3.out B3.out.size) (HT.out.fit B3.out B3.out.size)) ?_
    rintro e w4 ⟨⟨r, rfl, hr⟩, rfl⟩
    cases r with
    | false =>
      go_wp2_with fail
      go_ret
      exact ⟨rfl, B3.out⟩
    | true =>
      have HS3 := Lib.hid (show SchAt w3 l t a b from ⟨by have := (hr rfl).1; omega, HL.out.fit B3.out B3.out.size, HT.out.fit B3.out B3.out.size⟩)
      clear hr
      obtain ⟨p0, p1, p2, p3, p4⟩ := Y3.out
      go_wp2_with fail
      refine Calls.mono (CM.out _ (fit_flt HF.out B3.out)) ?_
      rintro e w5 ⟨⟨v, rfl, hrow, _⟩, hb⟩
      obtain ⟨aa, ca, rfl, hall⟩ := row_nms hrow HSN.out.1 HSN.out.2
      have B5 := Lib.hid (B3.out.trans (hb.mono B3.out.size))
      have Y5 := Lib.hid (Y3.out.later hb)
      have HS5 := Lib.hid (HS3.out.fit hb)
      have HA5 := Lib.hid hall
      clear hb hrow hall p0 p1 p2 p3 p4
      obtain ⟨p0, p1, p2, p3, p4⟩ := Y5.out
      go_wp2_with fail
      refine Calls.mono (CN.out _ (fit_flt HF.out B5.out)) ?_
      rintro e w6 ⟨⟨v, rfl, hrow, _⟩, hb⟩
      obtain ⟨bb, cb, rfl, hall⟩ := row_nms hrow HSN.out.1 HSN.out.2
      have B6 := Lib.hid (B5.out.trans (hb.mono B5.out.size))
      have Y6 := Lib.hid (Y5.out.later hb)
      have HS6 := Lib.hid (HS5.out.fit hb)
      have HA6 := Lib.hid (HA5.out.fit hb hb.size)
      have HB6 := Lib.hid hall
      obtain ⟨na, hna⟩ : ∃ x, x = N.length := ⟨_, rfl⟩
      have HNA := Lib.hid hna
      have hnab : na ≤ 9223372036854775807 := by have := HB6.out.1; unfold maxLen at this; omega
      rw [← hna]
      clear hb hrow hall hna p0 p1 p2 p3 p4
      go_wp2_with fail
      go_loopw [11] (fun vi wr => PaR na w6 vi wr) (fun vi _ => na - (intOf vi).toNat)
      case atStart => exact ⟨0, Nat.zero_le _, rfl, Below.refl _ _⟩
      case round =>
        obtain ⟨j, hk, rfl, hBB⟩ := hrel
        have HKJ := Lib.hid hk
        have HBB := Lib.hid hBB
        have HBW := Lib.hid (B6.out.trans (hBB.mono B6.out.size))
        have Y7 := Lib.hid (Y6.out.later hBB)
        have HS7 := Lib.hid (HS6.out.fit hBB)
        clear hk hBB
        by_cases hlt : j < na
        · have hlz : (j : Int) < (na : Int) := by omega
          have hku : j < N.length := by rw [← HNA.out]; exact hlt
          obtain ⟨g, o, hg, hgl, hc⟩ := (HA6.out.later HBB.out).2.2 (by omega)
          obtain ⟨g2, o2, hg2, hgl2, hc2⟩ := (HB6.out.later HBB.out).2.2 (by omega)
          have c1 := hc j hku
          have c2 := hc2 j hku
          obtain ⟨s1, q1, f1⟩ := bs_bytes N[j]
          rw [q1] at c1 c2
          subst hg hg2
          clear hc hc2 q1 f1 hgl hgl2
          go_wp2_with fail
          go_big_quiet (fail)
          all_goals
            go_wp2_with fail
            go_roundw
            case rel => exact ⟨j + 1, by omega, by go_num, below_drewN HBB.out _⟩
            case measure => simp [intOf]; omega
        · have hlz : ¬ (j : Int) < (na : Int) := by omega
          obtain ⟨wo, hwo⟩ : ∃ v, v = wr := ⟨_, rfl⟩
          rw [← hwo] at HBW Y7 HS7 ⊢
          clear hwo HBB hlt
          have HQ := Lib.hid (show ∀ W, Below wo.heap.size wo W → (fun W => W.cell? ⟨w.heap.size, 0, none⟩ = some (.int .i64 k) ∧ W.cell? ⟨w.heap.size, 1, none⟩ = some (.string sn) ∧ W.cell? ⟨w.heap.size, 2, none⟩ = some (.string so) ∧ W.cell? ⟨w.heap.size, 3, none⟩ = some (.slice fa nv fc) ∧ W.cell? ⟨w.heap.size, 4, none⟩ = some (.slice fb np fd) ∧ Below wo.heap.size wo W) W from fun W hW => by
            obtain ⟨y0, y1, y2, y3, y4⟩ := Y7.out.later hW
            exact ⟨y0, y1, y2, y3, y4, hW⟩)
          go_wp2_with fail
          refine wp_region_held_drew (S := (fun W => W.cell? ⟨w.heap.size, 0, none⟩ = some (.int .i64 k) ∧ W.cell? ⟨w.heap.size, 1, none⟩ = some (.string sn) ∧ W.cell? ⟨w.heap.size, 2, none⟩ = some (.string so) ∧ W.cell? ⟨w.heap.size, 3, none⟩ = some (.slice fa nv fc) ∧ W.cell? ⟨w.heap.size, 4, none⟩ = some (.slice fb np fd) ∧ Below wo.heap.size wo W)) (by kernel_rfl) (HQ.out _ (Below.refl _ _).drew) (fun hHeld => ?_)
          refine wpAnyH_take (i := 0) (v := ?v0) rfl (by kernel_rfl) (by kernel_rfl) (by kernel_rfl) (fun _ _ _ h => h) (Or.inl ⟨by rfl, ?y0⟩) hHeld ?r0
          case y0 => (intro W hSw; simp only [List.getElem_toArray, List.getElem_cons_zero]; go_simp; try (with_reducible rfl))
          simp only [List.getElem_toArray, List.getElem_cons_zero, Act.put, List.setIfInBounds_toArray, List.set_cons_zero, List.set_cons_succ]
          refine wpAnyH_take (i := 1) (v := ?v1) rfl (by kernel_rfl) (by kernel_rfl) (by kernel_rfl) (fun _ _ _ h => h) (Or.inl ⟨by rfl, ?y1⟩) hHeld ?r1
          case y1 => (intro W hSw; simp only [List.getElem_toArray, List.getElem_cons_succ, List.getElem_cons_zero]; go_simp; try (with_reducible rfl))
          simp only [List.getElem_toArray, List.getElem_cons_succ, List.getElem_cons_zero, Act.put, List.setIfInBounds_toArray, List.set_cons_zero, List.set_cons_succ]
          refine wpAnyH_take (i := 2) (v := ?v2) rfl (by kernel_rfl) (by kernel_rfl) (by kernel_rfl) (fun _ _ _ h => h) (Or.inl ⟨by rfl, ?y2⟩) hHeld ?r2
          case y2 => (intro W hSw; simp only [List.getElem_toArray, List.getElem_cons_succ, List.getElem_cons_zero]; go_simp; try (with_reducible rfl))
          simp only [List.getElem_toArray, List.getElem_cons_succ, List.getElem_cons_zero, Act.put, List.setIfInBounds_toArray, List.set_cons_zero, List.set_cons_succ]
          refine wpAnyH_take (i := 3) (v := ?v3) rfl (by kernel_rfl) (by kernel_rfl) (by kernel_rfl) (fun _ _ _ h => h) (Or.inl ⟨by rfl, ?y3⟩) hHeld ?r3
          case y3 => (intro W hSw; simp only [List.getElem_toArray, List.getElem_cons_succ, List.getElem_cons_zero]; go_simp; try (with_reducible rfl))
          simp only [List.getElem_toArray, List.getElem_cons_succ, List.getElem_cons_zero, Act.put, List.setIfInBounds_toArray, List.set_cons_zero, List.set_cons_succ]
          refine wpAnyH_take (i := 4) (v := ?v4) rfl (by kernel_rfl) (by kernel_rfl) (by kernel_rfl) (fun _ _ _ h => h) (Or.inl ⟨by rfl, ?y4⟩) hHeld ?r4
          case y4 => (intro W hSw; simp only [List.getElem_toArray, List.getElem_cons_succ, List.getElem_cons_zero]; go_simp; try (with_reducible rfl))
          simp only [List.getElem_toArray, List.getElem_cons_succ, List.getElem_cons_zero, Act.put, List.setIfInBounds_toArray, List.set_cons_zero, List.set_cons_succ]
          refine wpAnyH_take (i := 5) (v := ?v5) rfl (by kernel_rfl) (by kernel_rfl) (by kernel_rfl) (fun _ _ _ h => h) (Or.inl ⟨by rfl, ?y5⟩) hHeld ?r5
          case y5 => (intro W hSw; simp only [List.getElem_toArray, List.getElem_cons_succ, List.getElem_cons_zero]; go_simp; try (with_reducible rfl))
          simp only [List.getElem_toArray, List.getElem_cons_succ, List.getElem_cons_zero, Act.put, List.setIfInBounds_toArray, List.set_cons_zero, List.set_cons_succ]
          refine wpAnyH_take (i := 8) (v := ?v8) rfl (by kernel_rfl) (by kernel_rfl) (by kernel_rfl) (fun _ _ _ h => h) (Or.inl ⟨by rfl, ?y8⟩) hHeld ?r8
          case y8 => (intro W hSw; simp only [List.getElem_toArray, List.getElem_cons_succ, List.getElem_cons_zero]; go_simp; try (with_reducible rfl))
          simp only [List.getElem_toArray, List.getElem_cons_succ, List.getElem_cons_zero, Act.put, List.setIfInBounds_toArray, List.set_cons_zero, List.set_cons_succ]
          refine wpAnyH_take (i := 9) (v := ?v9) rfl (by kernel_rfl) (by kernel_rfl) (by kernel_rfl) (fun _ _ _ h => h) (Or.inl ⟨by rfl, ?y9⟩) hHeld ?r9
          case y9 => (intro W hSw; simp only [List.getElem_toArray, List.getElem_cons_succ, List.getElem_cons_zero]; go_simp; try (with_reducible rfl))
          simp only [List.getElem_toArray, List.getElem_cons_succ, List.getElem_cons_zero, Act.put, List.setIfInBounds_toArray, List.set_cons_zero, List.set_cons_succ]
          refine wpAnyH_take (i := 10) (v := ?v10) rfl (by kernel_rfl) (by kernel_rfl) (by kernel_rfl) (fun _ _ _ h => h) (Or.inl ⟨by rfl, ?y10⟩) hHeld ?r10
          case y10 => (intro W hSw; simp only [List.getElem_toArray, List.getElem_cons_succ, List.getElem_cons_zero]; go_simp; try (with_reducible rfl))
          simp only [List.getElem_toArray, List.getElem_cons_succ, List.getElem_cons_zero, Act.put, List.setIfInBounds_toArray, List.set_cons_zero, List.set_cons_succ]
          refine wpAnyH_ready (rs := [6]) (by kernel_rfl) (by simp) (AllReadyH.cons rfl (fun K hK => ?_) AllReadyH.nil)
          simp only [List.getElem_toArray, List.getElem_cons_succ, List.getElem_cons_zero]
          go_simp
          go_at_call 12; refine (CK.out _ (HE.out.later (HBW.out.trans (hHeld.2.2.2.2.2.mono HBW.out.size))) (HS7.out.fit hHeld.2.2.2.2.2) (fit_flt HF.out (HBW.out.trans (hHeld.2.2.2.2.2.mono HBW.out.size)))).mono ?_; rintro e wq ⟨rfl, hb1⟩
          try go_wp2_with fail
          refine hK.out _ _ (HQ.out _ (hHeld.2.2.2.2.2.trans (hb1.mono hHeld.2.2.2.2.2.size))) (fun hHeld1 => ?_)
          clear hK K hHeld
          have hHeld := hHeld1; clear hHeld1
          try simp only [List.getElem_toArray, List.getElem_cons_succ, List.getElem_cons_zero, Act.put, List.setIfInBounds_toArray, List.set_cons_zero, List.set_cons_succ]
          refine wpAnyH_ready (rs := [7]) (by kernel_rfl) (by simp) (AllReadyH.cons rfl (fun K hK => ?_) AllReadyH.nil)
          simp only [List.getElem_toArray, List.getElem_cons_succ, List.getElem_cons_zero]
          go_simp
          go_at_call 11; refine (CC.out _).mono ?_; rintro e wq2 ⟨rfl, hb0⟩; have hb1 := Below.refl wq2.heap.size wq2; subst hb0
          try go_wp2_with fail
          refine hK.out _ _ (HQ.out _ (hHeld.2.2.2.2.2.trans (hb1.mono hHeld.2.2.2.2.2.size))) (fun hHeld1 => ?_)
          clear hK K hHeld
          have hHeld := hHeld1; clear hHeld1
          try simp only [List.getElem_toArray, List.getElem_cons_succ, List.getElem_cons_zero, Act.put, List.setIfInBounds_toArray, List.set_cons_zero, List.set_cons_succ]
          refine wpAnyH_ready (rs := [11]) (by kernel_rfl) (by simp) (AllReadyH.cons rfl (fun K hK => ?_) AllReadyH.nil)
          simp only [List.getElem_toArray, List.getElem_cons_succ, List.getElem_cons_zero]
          go_simp
          go_at_call 13; refine (CR.out _ (HS7.out.fit hHeld.2.2.2.2.2) (fit_flt HF.out (HBW.out.trans (hHeld.2.2.2.2.2.mono HBW.out.size))) H5K.out).mono ?_; rintro e wq3 ⟨rfl, hb1⟩
          try go_wp2_with fail
          refine hK.out _ _ (HQ.out _ (hHeld.2.2.2.2.2.trans (hb1.mono hHeld.2.2.2.2.2.size))) (fun hHeld1 => ?_)
          clear hK K hHeld
          have hHeld := hHeld1; clear hHeld1
          try simp only [List.getElem_toArray, List.getElem_cons_succ, List.getElem_cons_zero, Act.put, List.setIfInBounds_toArray, List.set_cons_zero, List.set_cons_succ]
          refine wpAnyH_take (i := 12) (v := ?v12) rfl (by kernel_rfl) (by kernel_rfl) (by kernel_rfl) (fun _ _ _ h => h) (Or.inl ⟨by rfl, ?y12⟩) hHeld ?r12
          case y12 => (intro W hSw; simp only [List.getElem_toArray, List.getElem_cons_succ, List.getElem_cons_zero]; go_simp; try (with_reducible rfl))
          simp only [List.getElem_toArray, List.getElem_cons_succ, List.getElem_cons_zero, Act.put, List.setIfInBounds_toArray, List.set_cons_zero, List.set_cons_succ]
          refine wpAnyH_take (i := 13) (v := ?v13) rfl (by kernel_rfl) (by kernel_rfl) (by kernel_rfl) (fun _ _ _ h => h) (Or.inl ⟨by rfl, ?y13⟩) hHeld ?r13
          case y13 => (intro W hSw; simp only [List.getElem_toArray, List.getElem_cons_succ, List.getElem_cons_zero]; go_simp; try (with_reducible rfl))
          simp only [List.getElem_toArray, List.getElem_cons_succ, List.getElem_cons_zero, Act.put, List.setIfInBounds_toArray, List.set_cons_zero, List.set_cons_succ]
          refine wpAnyH_take (i := 14) (v := ?v14) rfl (by kernel_rfl) (by kernel_rfl) (by kernel_rfl) (fun _ _ _ h => h) (Or.inl ⟨by rfl, ?y14⟩) hHeld ?r14
          case y14 => (intro W hSw; simp only [List.getElem_toArray, List.getElem_cons_succ, List.getElem_cons_zero]; go_simp; try (with_reducible rfl))
          simp only [List.getElem_toArray, List.getElem_cons_succ, List.getElem_cons_zero, Act.put, List.setIfInBounds_toArray, List.set_cons_zero, List.set_cons_succ]
          refine wpAnyH_done (by kernel_rfl) ?_ _
          have B9 := Lib.hid (HBW.out.trans (hHeld.2.2.2.2.2.mono HBW.out.size))
          clear hHeld
          go_wp2_with fail
          go_ret
          exact ⟨by simp, B9.out⟩
end Go.Proofs.YtmfkpoojfpepaaaGreatDoor.Ck
