/-
  Contracts of none and event of the document's answer for layer 10: is there no event, may an event be? Memory that was there is left as it was.
-/
import Derived.Test.YtndgbdbjmogioaaWiMayA
namespace Go.Proofs.Ytndgbdbjmogioaa.Wi
open Go.RowKit Go.Proofs.Ytndgbdbjmogioaa.Fl
set_option linter.unusedVariables false
set_option linter.unusedSimpArgs false

set_option maxHeartbeats 4000000
set_option maxRecDepth 100000
theorem none_any (e : Ev) (a : Option Addr) (c : Nat) (w : World) :
    Calls Try.prog 18 #[.agg #[.int .i64 e.pub, .int .u32 (e.seq : Nat), .int .i64 e.x, .int .i64 e.y, .slice a e.attrs.length c]] w fun x w' => x = .returned (.bool (noEv e)) ∧ Below w.heap.size w w' := by
  obtain ⟨n, hn⟩ : ∃ n, n = e.attrs.length := ⟨_, rfl⟩
  rw [← hn]
  obtain ⟨t1, ht1⟩ : ∃ b : Bool, (e.pub == 0) = b := ⟨_, rfl⟩
  obtain ⟨t2, ht2⟩ : ∃ b : Bool, (((e.seq : Nat) : Int) == 0) = b := ⟨_, rfl⟩
  obtain ⟨t3, ht3⟩ : ∃ b : Bool, (e.x == 0) = b := ⟨_, rfl⟩
  obtain ⟨t4, ht4⟩ : ∃ b : Bool, (e.y == 0) = b := ⟨_, rfl⟩
  obtain ⟨t5, ht5⟩ : ∃ b : Bool, (((n : Nat) : Int) == 0) = b := ⟨_, rfl⟩
  have HM := Lib.hid (show noEv e = (t1 && t2 && t3 && t4 && t5) by
    unfold noEv
    rw [← hn, ← ht1, ← ht2, ← ht3, ← ht4, ← ht5]
    have q2 : (((e.seq : Nat) : Int) == 0) = (e.seq == 0) := by rw [Bool.eq_iff_iff]; simp
    have q5 : (((n : Nat) : Int) == 0) = (n == 0) := by rw [Bool.eq_iff_iff]; simp
    rw [q2, q5])
  obtain ⟨res, hres⟩ : ∃ x, x = noEv e := ⟨_, rfl⟩
  have HR := Lib.hid hres
  rw [← hres]
  have HB := Lib.hid (below_alloc w (.cells #[.int .i64 e.pub, .int .u32 (e.seq : Nat), .int .i64 e.x, .int .i64 e.y, .slice a n c] 29))
  clear hres hn
  cases t1
  · have HF := Lib.hid (show res = false by rw [HR.out, HM.out]; simp)
    go_enter Try.func18, Try.ntmps18
    go_wp2_with fail
    go_ret
    exact ⟨by rw [HF.out]; first | rfl | simp, HB.out⟩
  · cases t2
    · have HF := Lib.hid (show res = false by rw [HR.out, HM.out]; simp)
      go_enter Try.func18, Try.ntmps18
      go_wp2_with fail
      go_ret
      exact ⟨by rw [HF.out]; first | rfl | simp, HB.out⟩
    · cases t3
      · have HF := Lib.hid (show res = false by rw [HR.out, HM.out]; simp)
        go_enter Try.func18, Try.ntmps18
        go_wp2_with fail
        go_ret
        exact ⟨by rw [HF.out]; first | rfl | simp, HB.out⟩
      · cases t4
        · have HF := Lib.hid (show res = false by rw [HR.out, HM.out]; simp)
          go_enter Try.func18, Try.ntmps18
          go_wp2_with fail
          go_ret
          exact ⟨by rw [HF.out]; first | rfl | simp, HB.out⟩
        · cases t5
          · have HF := Lib.hid (show res = false by rw [HR.out, HM.out]; simp)
            go_enter Try.func18, Try.ntmps18
            go_wp2_with fail
            go_ret
            exact ⟨by rw [HF.out]; first | rfl | simp, HB.out⟩
          · have HF := Lib.hid (show res = true by rw [HR.out, HM.out]; simp)
            go_enter Try.func18, Try.ntmps18
            go_wp2_with fail
            go_ret
            exact ⟨by rw [HF.out]; first | rfl | simp, HB.out⟩
theorem eventR_any (e : Ev) (a : Option Addr) (c : Nat) (w : World) (hA : AttsAt w (Old w.heap.size) a e.attrs) :
    Calls Try.prog 19 #[.agg #[.int .i64 e.pub, .int .u32 (e.seq : Nat), .int .i64 e.x, .int .i64 e.y, .slice a e.attrs.length c]] w fun x w' => x = .returned (.bool (evB e)) ∧ Below w.heap.size w w' := by
  obtain ⟨n, hn⟩ : ∃ n, n = e.attrs.length := ⟨_, rfl⟩
  have hm : n ≤ 9223372036854775807 := by have := hA.1; unfold maxLen at this; omega
  have HN := Lib.hid hn
  rw [← hn]
  obtain ⟨any, hany⟩ : ∃ b, e.attrs.any (fun v => !(attB v)) = b := ⟨_, rfl⟩
  have HEV := Lib.hid (ev_parts e any hany)
  have HANY := Lib.hid hany
  rw [← hn] at HEV
  obtain ⟨t2, ht2⟩ : ∃ b, Pt.mayB e.x e.y = b := ⟨_, rfl⟩
  have C2 := Lib.hid (fun W => Pt.refMay_any e.x e.y W)
  rw [ht2] at C2 HEV
  obtain ⟨pub, hpub⟩ : ∃ p, p = e.pub := ⟨_, rfl⟩
  rw [← hpub] at HEV ⊢
  obtain ⟨w1, hw1⟩ : ∃ W0 : World, W0 = w.alloc (.cells #[.int .i64 pub, .int .u32 (e.seq : Nat), .int .i64 e.x, .int .i64 e.y, .slice a n c] 29) := ⟨_, rfl⟩
  have B1 := Lib.hid (show Below w.heap.size w w1 by rw [hw1]; exact below_alloc _ _)
  have X1 := Lib.hid (show Bx w1 none (.bool false) w.heap.size 29 #[.int .i64 pub, .int .u32 (e.seq : Nat), .int .i64 e.x, .int .i64 e.y, .slice a n c] by rw [hw1]; exact ⟨heap_alloc_new w _, by simp, by simp [Value.ownBlock]⟩)
  have HA := Lib.hid (show AttsAt w1 (Old w1.heap.size) a e.attrs from hA.far fun g hg => ⟨Nat.lt_of_lt_of_le hg B1.out.size, B1.out.block g hg⟩)
  have HW := Lib.hid hw1
  obtain ⟨res, hres⟩ : ∃ x, x = evB e := ⟨_, rfl⟩
  have HR := Lib.hid hres
  rw [← hres]
  clear ht2 hany hn hw1 hres hA hpub
  go_enter Try.func19, Try.ntmps19
  go_wp2_with fail
  rw [← HW.out]
  refine Calls.mono (C2.out _) ?_
  rintro x w2 ⟨rfl, hb⟩
  have B2 := Lib.hid (B1.out.trans (hb.mono B1.out.size))
  have X2 := Lib.hid (X1.out.later hb)
  have HA2 := Lib.hid (show AttsAt w2 (Old w2.heap.size) a e.attrs from HA.out.far fun g hg => ⟨Nat.lt_of_lt_of_le hg hb.size, hb.block g hg⟩)
  clear hb
  obtain ⟨c0, c1, c2, c3, c4⟩ := X2.out.c5
  by_cases p1 : pub < 0
  · have HF := Lib.hid (show res = false by rw [HR.out, HEV.out]; rw [show num31 pub = false by simp [num31]; omega]; simp)
    go_wp2_with fail
    go_ret
    exact ⟨by rw [HF.out]; first | rfl | simp, B2.out⟩
  · by_cases p2 : 2147483647 < pub
    · have HF := Lib.hid (show res = false by rw [HR.out, HEV.out]; rw [show num31 pub = false by simp [num31]; omega]; simp)
      go_wp2_with fail
      go_ret
      exact ⟨by rw [HF.out]; first | rfl | simp, B2.out⟩
    · have HPOS := Lib.hid (show num31 pub = true by simp [num31]; omega)
      cases t2
      · have HF := Lib.hid (show res = false by rw [HR.out, HEV.out]; simp)
        go_wp2_with fail
        go_ret
        exact ⟨by rw [HF.out]; first | rfl | simp, B2.out⟩
      · by_cases h16 : n ≤ 16
        · have hz16 : ¬ (16 : Int) < (n : Int) := by omega
          go_wp2_with fail
          go_loopw [4] (fun vi wr => IxR (fun v => !(attB v)) e.attrs w2 vi wr) (fun vi _ => n - (intOf vi).toNat)
          case atStart => exact ⟨0, Nat.zero_le _, rfl, Lib.hid (by simp), Below.refl _ _⟩
          case round =>
            obtain ⟨k, hk, rfl, hall, hB⟩ := hrel
            have HK := Lib.hid hk
            have HB := Lib.hid hB
            have XR := Lib.hid (X2.out.later hB)
            clear hk hB c0 c1 c2 c3 c4
            obtain ⟨x0, x1, x2, x3, x4⟩ := XR.out.c5
            clear x0 x1 x2 x3
            by_cases hlt : k < n
            · have hlz : (k : Int) < (n : Int) := by omega
              have hkl : k < e.attrs.length := by rw [← HN.out]; exact hlt
              obtain ⟨g, o, hg, hgl, hc⟩ := (HA2.out.later HB.out).2.2 (by omega)
              have hcc := hc k hkl
              have HVK := Lib.hid (show e.attrs[k]? = some e.attrs[k] from List.getElem?_eq_getElem hkl)
              obtain ⟨V, hV⟩ : ∃ V, V = e.attrs[k] := ⟨_, rfl⟩
              rw [← hV] at hcc HVK
              obtain ⟨nm, tx, nu, st⟩ := V
              simp only at hcc
              obtain ⟨c0, c1, c2, c3⟩ := hcc
              obtain ⟨sn, e0, hsn⟩ := bs_of' nm
              obtain ⟨ss, e3, hss⟩ := bs_of' st
              rw [e0] at c0
              rw [e3] at c3
              have hn2 : sn.size = nm.length := by rw [← hsn]; simp
              have hs2 : ss.size = st.length := by rw [← hss]; simp
              obtain ⟨t1, ht1⟩ : ∃ b : Bool, (nu == 0) = b := ⟨_, rfl⟩
              obtain ⟨t2, ht2⟩ : ∃ b : Bool, (st == []) = b := ⟨_, rfl⟩
              have HATT := Lib.hid (show attB ⟨nm, tx, nu, st⟩ = (decide (sn.size ≤ 200) && decide (ss.size ≤ 200) && (if tx then t1 else t2)) by unfold attB; rw [hn2, hs2]; simp only [ht1, ht2])
              have q1 : (nu != 0) = !t1 := by rw [← ht1]; rfl
              have q2 : ss.toList.isEmpty = t2 := by rw [Lib.toList_data, hss, ← ht2]; cases st <;> rfl
              have BAD := Lib.hid (show attB ⟨nm, tx, nu, st⟩ = false → res = false by
                intro h
                have h1 : any = true := by rw [← HANY.out, List.any_eq_true]; exact ⟨_, List.mem_of_getElem? HVK.out, by rw [h]; rfl⟩
                rw [HR.out, HEV.out, h1]
                simp)
              have GOOD := Lib.hid (show attB ⟨nm, tx, nu, st⟩ = true → _ from fun h => none_more hall.out HVK.out (by rw [h]; rfl))
              have BN := Lib.hid (B2.out.trans ((HB.out.alloc HB.out.size (.cells #[.string sn, .bool tx, .int .i64 nu, .string ss] 50)).mono B2.out.size))
              have BH := Lib.hid (HB.out.alloc HB.out.size (.cells #[.string sn, .bool tx, .int .i64 nu, .string ss] 50))
              subst hg
              clear hc hV e0 e3 hgl hsn hss hn2 hs2 ht2
              by_cases h1 : sn.size ≤ 200
              · have h1z : ¬ (200 : Int) < (sn.size : Int) := by omega
                by_cases h2 : ss.size ≤ 200
                · have h2z : ¬ (200 : Int) < (ss.size : Int) := by omega
                  cases tx
                  · cases t2
                    · have HF := Lib.hid (BAD.out (by rw [HATT.out, decide_eq_true h1, decide_eq_true h2]; simp))
                      clear h1 h2
                      go_wp2_with fail
                      go_ret
                      exact ⟨by rw [HF.out]; first | rfl | simp, BN.out⟩
                    · have HF := Lib.hid (GOOD.out (by rw [HATT.out, decide_eq_true h1, decide_eq_true h2]; rfl))
                      clear h1 h2
                      go_wp2_with fail
                      go_roundw
                      case rel => exact ⟨k + 1, by omega, by go_num, HF, BH.out⟩
                      case measure => simp [intOf]; omega
                  · cases t1
                    · have HF := Lib.hid (BAD.out (by rw [HATT.out, decide_eq_true h1, decide_eq_true h2]; simp))
                      clear h1 h2
                      go_wp2_with fail
                      go_ret
                      exact ⟨by rw [HF.out]; first | rfl | simp, BN.out⟩
                    · have HF := Lib.hid (GOOD.out (by rw [HATT.out, decide_eq_true h1, decide_eq_true h2]; rfl))
                      clear h1 h2
                      go_wp2_with fail
                      go_roundw
                      case rel => exact ⟨k + 1, by omega, by go_num, HF, BH.out⟩
                      case measure => simp [intOf]; omega
                · have h2z : (200 : Int) < (ss.size : Int) := by omega
                  have HF := Lib.hid (BAD.out (by rw [HATT.out, decide_eq_true h1, decide_eq_false h2]; simp))
                  clear h1 h2
                  go_wp2_with fail
                  go_ret
                  exact ⟨by rw [HF.out]; first | rfl | simp, BN.out⟩
              · have h1z : (200 : Int) < (sn.size : Int) := by omega
                have HF := Lib.hid (BAD.out (by rw [HATT.out, decide_eq_false h1]; simp))
                clear h1
                go_wp2_with fail
                go_ret
                exact ⟨by rw [HF.out]; first | rfl | simp, BN.out⟩
            · have hlz : ¬ (k : Int) < (n : Int) := by omega
              have hkk : k = n := by have := HN.out; have := HK.out; omega
              have HF := Lib.hid (show res = true by
                have := hall.out
                rw [hkk, HN.out, List.take_length] at this
                have h2 : any = false := by rw [← HANY.out, List.any_eq_false]; exact fun x hx => by have h9 : (!attB x) = false := this x hx; rw [h9]; simp
                rw [HR.out, HEV.out, h2, HPOS.out, decide_eq_true h16]
                rfl)
              clear hkk
              go_wp2_with fail
              go_ret
              exact ⟨by rw [HF.out]; first | rfl | simp, B2.out.trans (HB.out.mono B2.out.size)⟩
        · have hz16 : (16 : Int) < (n : Int) := by omega
          have HF := Lib.hid (show res = false by rw [HR.out, HEV.out]; rw [decide_eq_false h16]; simp)
          go_wp2_with fail
          go_ret
          exact ⟨by rw [HF.out]; first | rfl | simp, B2.out⟩
end Go.Proofs.Ytndgbdbjmogioaa.Wi
