/-
  Contracts: may an event be (isNumber, isNoAttr, isEvent of package wire, slices.ContainsFunc as it calls it)? Memory that was there is left as it was.
-/
import Derived.Test.YtndgbdbjmogioaaWiEq
import Derived.Test.YtndgbdbjmogioaaPtMay
namespace Go.Proofs.Ytndgbdbjmogioaa.Wi
open Go.RowKit Go.Proofs.Ytndgbdbjmogioaa.Fl
set_option linter.unusedVariables false
set_option linter.unusedSimpArgs false

set_option maxHeartbeats 2000000
set_option maxRecDepth 100000
theorem isNum_any (n : Int) (w : World) : Calls Try.prog 22 #[.int .i64 n] w fun e w' => e = .returned (.bool (num31 n)) ∧ w = w' := by
  by_cases h1 : 0 ≤ n
  · by_cases h2 : n ≤ 2147483647
    · rw [show num31 n = true by simp [num31, h1, h2]]
      go_enter Try.func22, Try.ntmps22
      go_wp2_with fail
      go_ret
      exact ⟨by first | rfl | simp [h1, h2], rfl⟩
    · rw [show num31 n = false by simp [num31]; omega]
      go_enter Try.func22, Try.ntmps22
      go_wp2_with fail
      go_ret
      exact ⟨by first | rfl | simp [h2], rfl⟩
  · rw [show num31 n = false by simp [num31]; omega]
    go_enter Try.func22, Try.ntmps22
    go_wp2_with fail
    go_ret
    exact ⟨by first | rfl | simp [h1], rfl⟩
theorem noAttr_any (nm st : List UInt8) (tx : Bool) (nu : Int) (sn ss : ByteArray) (hn : sn.data.toList = nm) (hs : ss.data.toList = st) (w : World) :
    Calls Try.prog 48 #[.agg #[.string sn, .bool tx, .int .i64 nu, .string ss]] w fun e w' => e = .returned (.bool (!(attB ⟨nm, tx, nu, st⟩))) ∧ Below w.heap.size w w' := by
  have hn2 : sn.size = nm.length := by rw [← hn]; simp
  have hs2 : ss.size = st.length := by rw [← hs]; simp
  have HB := Lib.hid (below_alloc w (.cells #[.string sn, .bool tx, .int .i64 nu, .string ss] 50))
  obtain ⟨t1, ht1⟩ : ∃ b : Bool, (nu == 0) = b := ⟨_, rfl⟩
  obtain ⟨t2, ht2⟩ : ∃ b : Bool, (st == []) = b := ⟨_, rfl⟩
  have HATT := Lib.hid (show attB ⟨nm, tx, nu, st⟩ = (decide (sn.size ≤ 200) && decide (ss.size ≤ 200) && (if tx then t1 else t2)) by unfold attB; rw [hn2, hs2]; simp only [ht1, ht2])
  have q1 : (nu != 0) = !t1 := by rw [← ht1]; rfl
  have q2 : ss.toList.isEmpty = t2 := by rw [Lib.toList_data, hs, ← ht2]; cases st <;> rfl
  obtain ⟨res, hres⟩ : ∃ x, x = !(attB ⟨nm, tx, nu, st⟩) := ⟨_, rfl⟩
  have HR := Lib.hid hres
  rw [← hres]
  clear hres hn hs hn2 hs2 ht2
  cases tx
  · cases t2
    · have HF := Lib.hid (show res = true by rw [HR.out, HATT.out]; simp)
      go_enter Try.func48, Try.ntmps48
      go_wp2_with fail
      go_ret
      exact ⟨by rw [HF.out]; first | rfl | simp, HB.out⟩
    · by_cases h1 : sn.size ≤ 200
      · have h1z : ¬ (200 : Int) < (sn.size : Int) := by omega
        by_cases h2 : ss.size ≤ 200
        · have h2z : ¬ (200 : Int) < (ss.size : Int) := by omega
          have HF := Lib.hid (show res = false by rw [HR.out, HATT.out, decide_eq_true h1, decide_eq_true h2]; rfl)
          clear h1 h2
          go_enter Try.func48, Try.ntmps48
          go_wp2_with fail
          go_ret
          exact ⟨by rw [HF.out]; first | rfl | simp, HB.out⟩
        · have h2z : (200 : Int) < (ss.size : Int) := by omega
          have HF := Lib.hid (show res = true by rw [HR.out, HATT.out, decide_eq_true h1, decide_eq_false h2]; rfl)
          clear h1 h2
          go_enter Try.func48, Try.ntmps48
          go_wp2_with fail
          go_ret
          exact ⟨by rw [HF.out]; first | rfl | simp, HB.out⟩
      · have h1z : (200 : Int) < (sn.size : Int) := by omega
        have HF := Lib.hid (show res = true by rw [HR.out, HATT.out, decide_eq_false h1]; rfl)
        clear h1
        go_enter Try.func48, Try.ntmps48
        go_wp2_with fail
        go_ret
        exact ⟨by rw [HF.out]; first | rfl | simp, HB.out⟩
  · cases t1
    · have HF := Lib.hid (show res = true by rw [HR.out, HATT.out]; simp)
      go_enter Try.func48, Try.ntmps48
      go_wp2_with fail
      go_ret
      exact ⟨by rw [HF.out]; first | rfl | simp, HB.out⟩
    · by_cases h1 : sn.size ≤ 200
      · have h1z : ¬ (200 : Int) < (sn.size : Int) := by omega
        by_cases h2 : ss.size ≤ 200
        · have h2z : ¬ (200 : Int) < (ss.size : Int) := by omega
          have HF := Lib.hid (show res = false by rw [HR.out, HATT.out, decide_eq_true h1, decide_eq_true h2]; rfl)
          clear h1 h2
          go_enter Try.func48, Try.ntmps48
          go_wp2_with fail
          go_ret
          exact ⟨by rw [HF.out]; first | rfl | simp, HB.out⟩
        · have h2z : (200 : Int) < (ss.size : Int) := by omega
          have HF := Lib.hid (show res = true by rw [HR.out, HATT.out, decide_eq_true h1, decide_eq_false h2]; rfl)
          clear h1 h2
          go_enter Try.func48, Try.ntmps48
          go_wp2_with fail
          go_ret
          exact ⟨by rw [HF.out]; first | rfl | simp, HB.out⟩
      · have h1z : (200 : Int) < (sn.size : Int) := by omega
        have HF := Lib.hid (show res = true by rw [HR.out, HATT.out, decide_eq_false h1]; rfl)
        clear h1
        go_enter Try.func48, Try.ntmps48
        go_wp2_with fail
        go_ret
        exact ⟨by rw [HF.out]; first | rfl | simp, HB.out⟩
def IxR (bad : Att → Bool) (vs : List Att) (w : World) (vi : Value) (wr : World) : Prop :=
  ∃ k : Nat, k ≤ vs.length ∧ vi = .int .i64 k ∧ Hid (∀ v ∈ vs.take k, bad v = false) ∧ Below w.heap.size w wr
theorem none_more {α : Type} {bad : α → Bool} {vs : List α} {k : Nat} {v : α} (h : ∀ v ∈ vs.take k, bad v = false) (hk : vs[k]? = some v) (hv : bad v = false) : ∀ v ∈ vs.take (k + 1), bad v = false := by
  rw [List.take_add_one, hk]
  intro u hu
  rcases List.mem_append.1 hu with hu | hu
  · exact h u hu
  · simp at hu
    rw [hu]
    exact hv

theorem bad_index (vs : List Att) (av : Option Addr) (cap : Nat) (w : World) (h : AttsAt w (Old w.heap.size) av vs) :
    Calls Try.prog 59 #[.slice av vs.length cap, .func (.func 48) #[] #[]] w fun e w' =>
      (∃ k : Nat, e = .returned (.int .i64 (k : Nat)) ∧ vs.any (fun v => !(attB v)) = true ∨ e = .returned (.int .i64 (-1)) ∧ vs.any (fun v => !(attB v)) = false) ∧ Below w.heap.size w w' := by
  obtain ⟨bad, hbad⟩ : ∃ x : Att → Bool, x = (fun v => !(attB v)) := ⟨_, rfl⟩
  have CC := Lib.hid (show ∀ (v : Att), attOk v → ∀ W, Below w.heap.size w W → Calls Try.prog 48 #[.agg #[bs v.name, .bool v.text, .int .i64 v.num, bs v.str]] W fun e w' => e = .returned (.bool (bad v)) ∧ Below W.heap.size W w' by
    rw [hbad]
    intro v hv W hW
    exact noAttr_any v.name v.str v.text v.num ⟨v.name.toArray⟩ ⟨v.str.toArray⟩ rfl rfl W)
  rw [← hbad]
  obtain ⟨res, hres⟩ : ∃ b, vs.any bad = b := ⟨_, rfl⟩
  have HR := Lib.hid hres
  rw [hres]
  clear hres hbad
  obtain ⟨n, hn⟩ : ∃ n, n = vs.length := ⟨_, rfl⟩
  have hm : n ≤ 9223372036854775807 := by have := h.1; unfold maxLen at this; omega
  have HN := Lib.hid hn
  have HA := Lib.hid h
  rw [← hn]
  clear hn h
  go_enter Try.func59, Try.ntmps59
  go_wp2_with fail
  go_loopw [8] (fun vi wr => IxR bad vs w vi wr) (fun vi _ => n - (intOf vi).toNat)
  case atStart => exact ⟨0, Nat.zero_le _, rfl, Lib.hid (by simp), Below.refl _ _⟩
  case round =>
    obtain ⟨k, hk, rfl, hall, hB⟩ := hrel
    have HK := Lib.hid hk
    have HB := Lib.hid hB
    clear hk hB
    by_cases hlt : k < n
    · have hlz : (k : Int) < (n : Int) := by omega
      have hkl : k < vs.length := by rw [← HN.out]; exact hlt
      obtain ⟨g, o, hg, hgl, hc⟩ := (HA.out.later HB.out).2.2 (by omega)
      obtain ⟨c0, c1, c2, c3⟩ := hc k hkl
      obtain ⟨V, hV⟩ : ∃ V, V = vs[k] := ⟨_, rfl⟩
      rw [← hV] at c0 c1 c2 c3
      have HVK := Lib.hid (show vs[k]? = some V by rw [hV]; exact List.getElem?_eq_getElem hkl)
      have HOK := Lib.hid (HA.out.2.1 V (List.mem_of_getElem? HVK.out))
      obtain ⟨sn, e0, hsn⟩ := bs_of' V.name
      obtain ⟨ss, e3, hss⟩ := bs_of' V.str
      obtain ⟨tx, htx⟩ : ∃ x, x = V.text := ⟨_, rfl⟩
      obtain ⟨nm, hnm⟩ : ∃ x, x = V.num := ⟨_, rfl⟩
      have CV := Lib.hid (CC.out V HOK.out)
      rw [e0, e3, ← htx, ← hnm] at CV
      rw [e0] at c0
      rw [← htx] at c1
      rw [← hnm] at c2
      rw [e3] at c3
      obtain rfl := hg
      clear hc hV e0 hsn e3 hss htx hnm hgl
      cases hv : bad V
      · have HF := Lib.hid (none_more hall.out HVK.out hv)
        rw [hv] at CV
        clear hv
        go_wp2_with fail
        refine Calls.mono (CV.out wr HB.out) ?_
        rintro e w1 ⟨rfl, hb⟩
        have HB1 := Lib.hid (HB.out.trans (hb.mono HB.out.size))
        clear hb
        go_wp2_with fail
        go_roundw
        case rel => exact ⟨k + 1, by omega, by go_num, HF, HB1.out⟩
        case measure => simp [intOf]; omega
      · have HF := Lib.hid (show res = true by rw [← HR.out, List.any_eq_true]; exact ⟨V, List.mem_of_getElem? HVK.out, hv⟩)
        rw [hv] at CV
        clear hv
        go_wp2_with fail
        refine Calls.mono (CV.out wr HB.out) ?_
        rintro e w1 ⟨rfl, hb⟩
        have HB1 := Lib.hid (HB.out.trans (hb.mono HB.out.size))
        clear hb
        go_wp2_with fail
        go_ret
        exact ⟨⟨k, Or.inl ⟨rfl, HF.out⟩⟩, HB1.out⟩
    · have hlz : ¬ (k : Int) < (n : Int) := by omega
      have hkk : k = n := by have := HN.out; have := HK.out; omega
      have HF := Lib.hid (show res = false by
        have := hall.out
        rw [hkk, HN.out, List.take_length] at this
        rw [← HR.out, List.any_eq_false]
        exact fun x hx => by rw [this x hx]; simp)
      go_wp2_with fail
      go_ret
      exact ⟨⟨0, Or.inr ⟨rfl, HF.out⟩⟩, HB.out⟩
theorem bad_contains (vs : List Att) (av : Option Addr) (cap : Nat) (w : World) (h : AttsAt w (Old w.heap.size) av vs) :
    Calls Try.prog 47 #[.slice av vs.length cap, .func (.func 48) #[] #[]] w fun e w' => e = .returned (.bool (vs.any (fun v => !(attB v)))) ∧ Below w.heap.size w w' := by
  have HC := Lib.hid (bad_index vs av cap w h)
  obtain ⟨res, hres⟩ : ∃ b, vs.any (fun v => !(attB v)) = b := ⟨_, rfl⟩
  rw [hres] at HC ⊢
  obtain ⟨n, hn⟩ : ∃ n, n = vs.length := ⟨_, rfl⟩
  rw [← hn] at HC ⊢
  clear hn hres h
  go_enter Try.func47, Try.ntmps47
  go_wp2_with fail
  refine HC.out.mono ?_
  rintro e w1 ⟨⟨k, h⟩, hb⟩
  rcases h with ⟨rfl, rfl⟩ | ⟨rfl, rfl⟩
  · have hk : (0 : Int) ≤ (k : Int) := by omega
    go_wp2_with fail
    go_ret
    exact ⟨rfl, hb⟩
  · go_wp2_with fail
    go_ret
    exact ⟨rfl, hb⟩

theorem ev_parts (e : Ev) (any : Bool) (h : e.attrs.any (fun v => !(attB v)) = any) : evB e = (num31 e.pub && Pt.mayB e.x e.y && decide (e.attrs.length ≤ 16) && !any) := by
  have h2 : e.attrs.all attB = !any := by rw [← h, List.not_any_eq_all_not]; simp
  unfold evB coordB Pt.mayB Pt.inR
  rw [h2]
  simp only [Bool.and_assoc]
theorem isEvent_any (e : Ev) (a : Option Addr) (c : Nat) (w : World) (hA : AttsAt w (Old w.heap.size) a e.attrs) :
    Calls Try.prog 24 #[.agg #[.int .i64 e.pub, .int .u32 (e.seq : Nat), .int .i64 e.x, .int .i64 e.y, .slice a e.attrs.length c]] w fun x w' => x = .returned (.bool (evB e)) ∧ Below w.heap.size w w' := by
  have C3 := Lib.hid (fun W (hW : Below w.heap.size w W) => bad_contains e.attrs a c W (hA.far fun g hg => ⟨Nat.lt_of_lt_of_le hg hW.size, hW.block g hg⟩))
  obtain ⟨n, hn⟩ : ∃ n, n = e.attrs.length := ⟨_, rfl⟩
  rw [← hn] at C3 ⊢
  obtain ⟨any, hany⟩ : ∃ b, e.attrs.any (fun v => !(attB v)) = b := ⟨_, rfl⟩
  have HEV := Lib.hid (ev_parts e any hany)
  rw [← hn] at HEV
  rw [hany] at C3
  obtain ⟨t1, ht1⟩ : ∃ b, num31 e.pub = b := ⟨_, rfl⟩
  obtain ⟨t2, ht2⟩ : ∃ b, Pt.mayB e.x e.y = b := ⟨_, rfl⟩
  have C1 := Lib.hid (fun W => isNum_any e.pub W)
  have C2 := Lib.hid (fun W => Pt.may_any e.x e.y W)
  rw [ht1] at C1 HEV
  rw [ht2] at C2 HEV
  obtain ⟨w1, hw1⟩ : ∃ W0 : World, W0 = w.alloc (.cells #[.int .i64 e.pub, .int .u32 (e.seq : Nat), .int .i64 e.x, .int .i64 e.y, .slice a n c] 29) := ⟨_, rfl⟩
  have B1 := Lib.hid (show Below w.heap.size w w1 by rw [hw1]; exact below_alloc _ _)
  have X1 := Lib.hid (show Bx w1 none (.bool false) w.heap.size 29 #[.int .i64 e.pub, .int .u32 (e.seq : Nat), .int .i64 e.x, .int .i64 e.y, .slice a n c] by rw [hw1]; exact ⟨heap_alloc_new w _, by simp, by simp [Value.ownBlock]⟩)
  have HW := Lib.hid hw1
  obtain ⟨res, hres⟩ : ∃ x, x = evB e := ⟨_, rfl⟩
  have HR := Lib.hid hres
  rw [← hres]
  clear ht1 ht2 hany hn hw1 hres hA
  cases t1
  · have HF := Lib.hid (show res = false by rw [HR.out, HEV.out]; simp)
    obtain ⟨c0, c1, c2, c3, c4⟩ := X1.out.c5
    go_enter Try.func24, Try.ntmps24
    go_wp2_with fail
    rw [← HW.out]
    refine (C1.out _).mono ?_
    rintro x w2 ⟨rfl, rfl⟩
    go_wp2_with fail
    go_ret
    exact ⟨by rw [HF.out]; first | rfl | simp, B1.out⟩
  · cases t2
    · have HF := Lib.hid (show res = false by rw [HR.out, HEV.out]; simp)
      obtain ⟨c0, c1, c2, c3, c4⟩ := X1.out.c5
      go_enter Try.func24, Try.ntmps24
      go_wp2_with fail
      rw [← HW.out]
      refine (C1.out _).mono ?_
      rintro x w2 ⟨rfl, rfl⟩
      go_wp2_with fail
      refine Calls.mono (C2.out _) ?_
      rintro x w2 ⟨rfl, hb⟩
      have B2 := Lib.hid (B1.out.trans (hb.mono B1.out.size))
      have X2 := Lib.hid (X1.out.later hb)
      clear hb c0 c1 c2 c3 c4
      obtain ⟨c0, c1, c2, c3, c4⟩ := X2.out.c5
      go_wp2_with fail
      go_ret
      exact ⟨by rw [HF.out]; first | rfl | simp, B2.out⟩
    · by_cases h16 : n ≤ 16
      · have hz16 : (n : Int) ≤ 16 := by omega
        have HF := Lib.hid (show res = !any by rw [HR.out, HEV.out, decide_eq_true h16]; simp)
        clear h16
        obtain ⟨c0, c1, c2, c3, c4⟩ := X1.out.c5
        go_enter Try.func24, Try.ntmps24
        go_wp2_with fail
        rw [← HW.out]
        refine (C1.out _).mono ?_
        rintro x w2 ⟨rfl, rfl⟩
        go_wp2_with fail
        refine Calls.mono (C2.out _) ?_
        rintro x w2 ⟨rfl, hb⟩
        have B2 := Lib.hid (B1.out.trans (hb.mono B1.out.size))
        have X2 := Lib.hid (X1.out.later hb)
        clear hb c0 c1 c2 c3 c4
        obtain ⟨c0, c1, c2, c3, c4⟩ := X2.out.c5
        go_wp2_with fail
        refine Calls.mono (C3.out _ B2.out) ?_
        rintro x w3 ⟨rfl, hb⟩
        have B3 := Lib.hid (B2.out.trans (hb.mono B2.out.size))
        clear hb
        go_wp2_with fail
        go_ret
        exact ⟨by rw [HF.out]; first | rfl | simp, B3.out⟩
      · have hz16 : ¬ (n : Int) ≤ 16 := by omega
        have HF := Lib.hid (show res = false by rw [HR.out, HEV.out, decide_eq_false h16]; simp)
        clear h16
        obtain ⟨c0, c1, c2, c3, c4⟩ := X1.out.c5
        go_enter Try.func24, Try.ntmps24
        go_wp2_with fail
        rw [← HW.out]
        refine (C1.out _).mono ?_
        rintro x w2 ⟨rfl, rfl⟩
        go_wp2_with fail
        refine Calls.mono (C2.out _) ?_
        rintro x w2 ⟨rfl, hb⟩
        have B2 := Lib.hid (B1.out.trans (hb.mono B1.out.size))
        have X2 := Lib.hid (X1.out.later hb)
        clear hb c0 c1 c2 c3 c4
        obtain ⟨c0, c1, c2, c3, c4⟩ := X2.out.c5
        go_wp2_with fail
        go_ret
        exact ⟨by rw [HF.out]; first | rfl | simp, B2.out⟩
end Go.Proofs.Ytndgbdbjmogioaa.Wi
