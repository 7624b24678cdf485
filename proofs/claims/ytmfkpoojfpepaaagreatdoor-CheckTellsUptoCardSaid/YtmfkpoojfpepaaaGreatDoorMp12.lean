/-
  Contract of the document's answer names: a filter's names, in a row of the call's own. Memory that was there is left as it was.
-/
import Derived.Test.YtmfkpoojfpepaaaGreatDoorMp09
import Derived.Test.YtmfkpoojfpepaaaGreatDoorMp10
import Derived.Deep.RegionHeldLaw
import Derived.Test.YtmfkpoojfpepaaaGreatDoorMp11
import Derived.Test.YtmfkpoojfpepaaaGreatDoorMp05
import Derived.Laws.AppendOwnNone
import Derived.Maps.AppendAt
import Derived.OwnWalk
/-
  Contracts: has one of the attributes another type, or a value that may not be (slices.ContainsFunc of package check's two tests). Memory that was there is left as it was.
-/
namespace Go.Proofs.YtmfkpoojfpepaaaGreatDoor.Ck
open Go.RowKit Go.Proofs.YtmfkpoojfpepaaaGreatDoor.Fl Go.Proofs.YtmfkpoojfpepaaaGreatDoor.Tk
set_option linter.unusedVariables false
set_option linter.unusedSimpArgs false

set_option maxHeartbeats 2000000 in
set_option maxRecDepth 100000 in
theorem otherType_any (l : List Nm) (t : List Bool) (a : Option Addr) (c : Nat) (b : Option Addr) (d : Nat) (p : Nat) (sn : ByteArray) (tx : Bool) (nu : Int) (ss : ByteArray) (w : World) (hR : Rising l) (hlen : l.length = t.length) (hS : SchAt w l t a b) (hp : Two w p (.slice a l.length c) (.slice b t.length d)) :
    Calls Tryz.prog 33 #[.agg #[.string sn, .bool tx, .int .i64 nu, .string ss], .pointer (some ⟨p, 0, none⟩)] w fun e w' => e = .returned (.bool (!(tx == isT l t sn.data.toList))) ∧ Below w.heap.size w w' := by
  obtain ⟨r, hr⟩ : ∃ x, x = isT l t sn.data.toList := ⟨_, rfl⟩
  have CT := Lib.hid (fun W h => isText_any l t sn a c b d W hR hlen h)
  obtain ⟨n, hn⟩ : ∃ n, n = l.length := ⟨_, rfl⟩
  obtain ⟨m, hm⟩ : ∃ n, n = t.length := ⟨_, rfl⟩
  have HS := Lib.hid hS
  rw [← hn, ← hm] at hp CT
  rw [← hr] at CT ⊢
  have HP := Lib.hid hp
  clear hr hn hm hS hp
  obtain ⟨w1, hw1⟩ : ∃ v, v = w.alloc (.cells #[.string sn, .bool tx, .int .i64 nu, .string ss] 46) := ⟨_, rfl⟩
  have HB := Lib.hid (show Below w.heap.size w w1 by rw [hw1]; exact (Below.refl _ _).alloc (Nat.le_refl _) _)
  have Z1 := Lib.hid (show Blk w1 w.heap.size (.string sn) (.bool tx) (.int .i64 nu) (.string ss) by rw [hw1]; exact Blk.new ..)
  have HW := Lib.hid hw1
  have P1 := Lib.hid (HP.out.later HB.out)
  clear hw1
  have HQ := Lib.hid (show ∀ W, Below w1.heap.size w1 W → (fun W => W.cell? ⟨p, 0, none⟩ = some (.slice a n c) ∧ W.cell? ⟨p, 1, none⟩ = some (.slice b m d) ∧ W.cell? ⟨w.heap.size, 0, none⟩ = some (.string sn) ∧ W.cell? ⟨w.heap.size, 1, none⟩ = some (.bool tx) ∧ Below w1.heap.size w1 W) W from fun W hW => by
    obtain ⟨x0, x1⟩ := P1.out.later hW
    obtain ⟨z0, z1, z2, z3, -, -⟩ := Z1.out.later hW
    exact ⟨x0, x1, z0, z1, hW⟩)
  by_cases htr : tx = r
  · subst htr
    go_enter Tryz.func33, Tryz.ntmps33
    go_wp2_with fail
    rw [← HW.out]
    refine wp_region_held_drew (S := (fun W => W.cell? ⟨p, 0, none⟩ = some (.slice a n c) ∧ W.cell? ⟨p, 1, none⟩ = some (.slice b m d) ∧ W.cell? ⟨w.heap.size, 0, none⟩ = some (.string sn) ∧ W.cell? ⟨w.heap.size, 1, none⟩ = some (.bool tx) ∧ Below w1.heap.size w1 W)) (by kernel_rfl) (HQ.out _ (Below.refl _ _).drew) (fun hHeld => ?_)
    refine wpAnyH_take (i := 0) (v := ?vA0) rfl (by kernel_rfl) (by kernel_rfl) (by kernel_rfl) (fun _ _ _ h => h) (Or.inl ⟨by rfl, ?yA0⟩) hHeld ?rA0
    case yA0 => (intro W hSw; simp only [List.getElem_toArray, List.getElem_cons_zero]; go_simp; try (with_reducible rfl))
    simp only [List.getElem_toArray, List.getElem_cons_zero, Act.put, List.setIfInBounds_toArray, List.set_cons_zero, List.set_cons_succ]
    refine wpAnyH_take (i := 1) (v := ?vA1) rfl (by kernel_rfl) (by kernel_rfl) (by kernel_rfl) (fun _ _ _ h => h) (Or.inl ⟨by rfl, ?yA1⟩) hHeld ?rA1
    case yA1 => (intro W hSw; simp only [List.getElem_toArray, List.getElem_cons_succ, List.getElem_cons_zero]; go_simp; try (with_reducible rfl))
    simp only [List.getElem_toArray, List.getElem_cons_succ, List.getElem_cons_zero, Act.put, List.setIfInBounds_toArray, List.set_cons_zero, List.set_cons_succ]
    refine wpAnyH_take (i := 2) (v := ?vA2) rfl (by kernel_rfl) (by kernel_rfl) (by kernel_rfl) (fun _ _ _ h => h) (Or.inl ⟨by rfl, ?yA2⟩) hHeld ?rA2
    case yA2 => (intro W hSw; simp only [List.getElem_toArray, List.getElem_cons_succ, List.getElem_cons_zero]; go_simp; try (with_reducible rfl))
    simp only [List.getElem_toArray, List.getElem_cons_succ, List.getElem_cons_zero, Act.put, List.setIfInBounds_toArray, List.set_cons_zero, List.set_cons_succ]
    refine wpAnyH_take (i := 3) (v := ?vA3) rfl (by kernel_rfl) (by kernel_rfl) (by kernel_rfl) (fun _ _ _ h => h) (Or.inl ⟨by rfl, ?yA3⟩) hHeld ?rA3
    case yA3 => (intro W hSw; simp only [List.getElem_toArray, List.getElem_cons_succ, List.getElem_cons_zero]; go_simp; try (with_reducible rfl))
    simp only [List.getElem_toArray, List.getElem_cons_succ, List.getElem_cons_zero, Act.put, List.setIfInBounds_toArray, List.set_cons_zero, List.set_cons_succ]
    refine wpAnyH_take (i := 4) (v := ?vA4) rfl (by kernel_rfl) (by kernel_rfl) (by kernel_rfl) (fun _ _ _ h => h) (Or.inl ⟨by rfl, ?yA4⟩) hHeld ?rA4
    case yA4 => (intro W hSw; simp only [List.getElem_toArray, List.getElem_cons_succ, List.getElem_cons_zero]; go_simp; try (with_reducible rfl))
    simp only [List.getElem_toArray, List.getElem_cons_succ, List.getElem_cons_zero, Act.put, List.setIfInBounds_toArray, List.set_cons_zero, List.set_cons_succ]
    refine wpAnyH_ready (rs := [5]) (by kernel_rfl) (by simp) (AllReadyH.cons rfl (fun K hK => ?_) AllReadyH.nil)
    simp only [List.getElem_toArray, List.getElem_cons_succ, List.getElem_cons_zero]
    go_simp
    go_at_call 34; refine (CT.out _ ((HS.out.fit HB.out).fit hHeld.2.2.2.2)).mono ?_; rintro e wq ⟨rfl, hb1⟩
    try go_wp2_with fail
    refine hK.out _ _ (HQ.out _ (hHeld.2.2.2.2.trans (hb1.mono hHeld.2.2.2.2.size))) (fun hHeld1 => ?_)
    clear hK K hHeld
    have hHeld := hHeld1; clear hHeld1
    try simp only [List.getElem_toArray, List.getElem_cons_succ, List.getElem_cons_zero, Act.put, List.setIfInBounds_toArray, List.set_cons_zero, List.set_cons_succ]
    refine wpAnyH_take (i := 6) (v := ?vA6) rfl (by kernel_rfl) (by kernel_rfl) (by kernel_rfl) (fun _ _ _ h => h) (Or.inl ⟨by rfl, ?yA6⟩) hHeld ?rA6
    case yA6 => (intro W hSw; simp only [List.getElem_toArray, List.getElem_cons_succ, List.getElem_cons_zero]; go_simp; try (with_reducible rfl))
    simp only [List.getElem_toArray, List.getElem_cons_succ, List.getElem_cons_zero, Act.put, List.setIfInBounds_toArray, List.set_cons_zero, List.set_cons_succ]
    refine wpAnyH_take (i := 7) (v := ?vA7) rfl (by kernel_rfl) (by kernel_rfl) (by kernel_rfl) (fun _ _ _ h => h) (Or.inl ⟨by rfl, ?yA7⟩) hHeld ?rA7
    case yA7 => (intro W hSw; simp only [List.getElem_toArray, List.getElem_cons_succ, List.getElem_cons_zero]; go_simp; try (with_reducible rfl))
    simp only [List.getElem_toArray, List.getElem_cons_succ, List.getElem_cons_zero, Act.put, List.setIfInBounds_toArray, List.set_cons_zero, List.set_cons_succ]
    refine wpAnyH_done (by kernel_rfl) ?_ _
    have B7 := Lib.hid (HB.out.trans (hHeld.2.2.2.2.mono HB.out.size))
    clear hHeld
    go_wp2_with fail
    go_ret
    exact ⟨by simp, B7.out⟩
  · have hq : (tx == r) = false := by simpa using htr
    go_enter Tryz.func33, Tryz.ntmps33
    go_wp2_with fail
    rw [← HW.out]
    refine wp_region_held_drew (S := (fun W => W.cell? ⟨p, 0, none⟩ = some (.slice a n c) ∧ W.cell? ⟨p, 1, none⟩ = some (.slice b m d) ∧ W.cell? ⟨w.heap.size, 0, none⟩ = some (.string sn) ∧ W.cell? ⟨w.heap.size, 1, none⟩ = some (.bool tx) ∧ Below w1.heap.size w1 W)) (by kernel_rfl) (HQ.out _ (Below.refl _ _).drew) (fun hHeld => ?_)
    refine wpAnyH_take (i := 0) (v := ?vB0) rfl (by kernel_rfl) (by kernel_rfl) (by kernel_rfl) (fun _ _ _ h => h) (Or.inl ⟨by rfl, ?yB0⟩) hHeld ?rB0
    case yB0 => (intro W hSw; simp only [List.getElem_toArray, List.getElem_cons_zero]; go_simp; try (with_reducible rfl))
    simp only [List.getElem_toArray, List.getElem_cons_zero, Act.put, List.setIfInBounds_toArray, List.set_cons_zero, List.set_cons_succ]
    refine wpAnyH_take (i := 1) (v := ?vB1) rfl (by kernel_rfl) (by kernel_rfl) (by kernel_rfl) (fun _ _ _ h => h) (Or.inl ⟨by rfl, ?yB1⟩) hHeld ?rB1
    case yB1 => (intro W hSw; simp only [List.getElem_toArray, List.getElem_cons_succ, List.getElem_cons_zero]; go_simp; try (with_reducible rfl))
    simp only [List.getElem_toArray, List.getElem_cons_succ, List.getElem_cons_zero, Act.put, List.setIfInBounds_toArray, List.set_cons_zero, List.set_cons_succ]
    refine wpAnyH_take (i := 2) (v := ?vB2) rfl (by kernel_rfl) (by kernel_rfl) (by kernel_rfl) (fun _ _ _ h => h) (Or.inl ⟨by rfl, ?yB2⟩) hHeld ?rB2
    case yB2 => (intro W hSw; simp only [List.getElem_toArray, List.getElem_cons_succ, List.getElem_cons_zero]; go_simp; try (with_reducible rfl))
    simp only [List.getElem_toArray, List.getElem_cons_succ, List.getElem_cons_zero, Act.put, List.setIfInBounds_toArray, List.set_cons_zero, List.set_cons_succ]
    refine wpAnyH_take (i := 3) (v := ?vB3) rfl (by kernel_rfl) (by kernel_rfl) (by kernel_rfl) (fun _ _ _ h => h) (Or.inl ⟨by rfl, ?yB3⟩) hHeld ?rB3
    case yB3 => (intro W hSw; simp only [List.getElem_toArray, List.getElem_cons_succ, List.getElem_cons_zero]; go_simp; try (with_reducible rfl))
    simp only [List.getElem_toArray, List.getElem_cons_succ, List.getElem_cons_zero, Act.put, List.setIfInBounds_toArray, List.set_cons_zero, List.set_cons_succ]
    refine wpAnyH_take (i := 4) (v := ?vB4) rfl (by kernel_rfl) (by kernel_rfl) (by kernel_rfl) (fun _ _ _ h => h) (Or.inl ⟨by rfl, ?yB4⟩) hHeld ?rB4
    case yB4 => (intro W hSw; simp only [List.getElem_toArray, List.getElem_cons_succ, List.getElem_cons_zero]; go_simp; try (with_reducible rfl))
    simp only [List.getElem_toArray, List.getElem_cons_succ, List.getElem_cons_zero, Act.put, List.setIfInBounds_toArray, List.set_cons_zero, List.set_cons_succ]
    refine wpAnyH_ready (rs := [5]) (by kernel_rfl) (by simp) (AllReadyH.cons rfl (fun K hK => ?_) AllReadyH.nil)
    simp only [List.getElem_toArray, List.getElem_cons_succ, List.getElem_cons_zero]
    go_simp
    go_at_call 34; refine (CT.out _ ((HS.out.fit HB.out).fit hHeld.2.2.2.2)).mono ?_; rintro e wq ⟨rfl, hb1⟩
    try go_wp2_with fail
    refine hK.out _ _ (HQ.out _ (hHeld.2.2.2.2.trans (hb1.mono hHeld.2.2.2.2.size))) (fun hHeld1 => ?_)
    clear hK K hHeld
    have hHeld := hHeld1; clear hHeld1
    try simp only [List.getElem_toArray, List.getElem_cons_succ, List.getElem_cons_zero, Act.put, List.setIfInBounds_toArray, List.set_cons_zero, List.set_cons_succ]
    refine wpAnyH_take (i := 6) (v := ?vB6) rfl (by kernel_rfl) (by kernel_rfl) (by kernel_rfl) (fun _ _ _ h => h) (Or.inl ⟨by rfl, ?yB6⟩) hHeld ?rB6
    case yB6 => (intro W hSw; simp only [List.getElem_toArray, List.getElem_cons_succ, List.getElem_cons_zero]; go_simp; try (with_reducible rfl))
    simp only [List.getElem_toArray, List.getElem_cons_succ, List.getElem_cons_zero, Act.put, List.setIfInBounds_toArray, List.set_cons_zero, List.set_cons_succ]
    refine wpAnyH_take (i := 7) (v := ?vB7) rfl (by kernel_rfl) (by kernel_rfl) (by kernel_rfl) (fun _ _ _ h => h) (Or.inl ⟨by rfl, ?yB7⟩) hHeld ?rB7
    case yB7 => (intro W hSw; simp only [List.getElem_toArray, List.getElem_cons_succ, List.getElem_cons_zero]; go_simp; try (with_reducible rfl))
    simp only [List.getElem_toArray, List.getElem_cons_succ, List.getElem_cons_zero, Act.put, List.setIfInBounds_toArray, List.set_cons_zero, List.set_cons_succ]
    refine wpAnyH_done (by kernel_rfl) ?_ _
    have B7 := Lib.hid (HB.out.trans (hHeld.2.2.2.2.mono HB.out.size))
    clear hHeld
    go_wp2_with fail
    go_ret
    exact ⟨by simp [hq], B7.out⟩
/-- Is there none among the first k? -/
def IxR (bad : Att → Bool) (vs : List Att) (w : World) (vi : Value) (wr : World) : Prop :=
  ∃ k : Nat, k ≤ vs.length ∧ vi = .int .i64 k ∧ Hid (∀ v ∈ vs.take k, bad v = false) ∧ Below w.heap.size w wr
theorem none_more {bad : Att → Bool} {vs : List Att} {k : Nat} {v : Att} (h : ∀ v ∈ vs.take k, bad v = false) (hk : vs[k]? = some v) (hv : bad v = false) : ∀ v ∈ vs.take (k + 1), bad v = false := by
  rw [List.take_add_one, hk]
  intro u hu
  rcases List.mem_append.1 hu with hu | hu
  · exact h u hu
  · simp at hu
    rw [hu]
    exact hv

set_option maxHeartbeats 2000000 in
set_option maxRecDepth 100000 in
theorem other_index (l : List Nm) (t : List Bool) (a : Option Addr) (c : Nat) (b : Option Addr) (d : Nat) (p : Nat) (vs : List Att) (av : Option Addr) (cap : Nat) (w : World) (h : AttsAt w (Old w.heap.size) av vs) (hR : Rising l) (hlen : l.length = t.length) (hS : SchAt w l t a b) (hp : Two w p (.slice a l.length c) (.slice b t.length d)) :
    Calls Tryz.prog 49 #[.slice av vs.length cap, .func (.func 33) #[] #[.pointer (some ⟨p, 0, none⟩)]] w fun e w' =>
      (∃ k : Nat, e = .returned (.int .i64 (k : Nat)) ∧ vs.any (fun v => !(v.text == isT l t v.name)) = true ∨ e = .returned (.int .i64 (-1)) ∧ vs.any (fun v => !(v.text == isT l t v.name)) = false) ∧ Below w.heap.size w w' := by
  obtain ⟨bad, hbad⟩ : ∃ x : Att → Bool, x = (fun v => !(v.text == isT l t v.name)) := ⟨_, rfl⟩
  have CC := Lib.hid (show ∀ (v : Att), attOk v → ∀ W, Below w.heap.size w W → Calls Tryz.prog 33 #[.agg #[bs v.name, .bool v.text, .int .i64 v.num, bs v.str], .pointer (some ⟨p, 0, none⟩)] W fun e w' => e = .returned (.bool (bad v)) ∧ Below W.heap.size W w' by
    rw [hbad]
    intro v hv W hW
    exact otherType_any l t a c b d p ⟨v.name.toArray⟩ v.text v.num ⟨v.str.toArray⟩ W hR hlen (hS.fit hW) (hp.later hW))
  rw [← hbad]
  obtain ⟨res, hres⟩ : ∃ b, vs.any bad = b := ⟨_, rfl⟩
  have HR := Lib.hid hres
  rw [hres]
  clear hres hbad
  obtain ⟨n, hn⟩ : ∃ n, n = vs.length := ⟨_, rfl⟩
  have hm : n ≤ 9223372036854775807 := by have := h.1; unfold maxLen at this; omega
  have HN := Lib.hid hn
  have HA := Lib.hid h
  rw [← hn]
  clear hn h hR hlen hS hp
  go_enter Tryz.func49, Tryz.ntmps49
  go_wp2_with fail
  go_loopw [8] (fun vi wr => IxR bad vs w vi wr) (fun vi _ => n - (intOf vi).toNat)
  case atStart => exact ⟨0, Nat.zero_le _, rfl, Lib.hid (by simp), Below.refl _ _⟩
  case round =>
    obtain ⟨k, hk, rfl, hall, hB⟩ := hrel
    have HK := Lib.hid hk
    have HB := Lib.hid hB
    clear hk hB
    by_cases hlt : k < n
    · have hlz : (k : Int) < (n : Int) := by omega
      have hkl : k < vs.length := by rw [← HN.out]; exact hlt
      obtain ⟨g, o, hg, hgl, hc⟩ := (HA.out.later HB.out).2.2 (by omega)
      obtain ⟨c0, c1, c2, c3⟩ := hc k hkl
      obtain ⟨V, hV⟩ : ∃ V, V = vs[k] := ⟨_, rfl⟩
      rw [← hV] at c0 c1 c2 c3
      have HVK := Lib.hid (show vs[k]? = some V by rw [hV]; exact List.getElem?_eq_getElem hkl)
      have HOK := Lib.hid (HA.out.2.1 V (List.mem_of_getElem? HVK.out))
      obtain ⟨sn, e0, hsn⟩ := bs_bytes V.name
      obtain ⟨ss, e3, hss⟩ := bs_bytes V.str
      obtain ⟨tx, htx⟩ : ∃ x, x = V.text := ⟨_, rfl⟩
      obtain ⟨nm, hnm⟩ : ∃ x, x = V.num := ⟨_, rfl⟩
      have CV := Lib.hid (CC.out V HOK.out)
      rw [e0, e3, ← htx, ← hnm] at CV
      rw [e0] at c0
      rw [← htx] at c1
      rw [← hnm] at c2
      rw [e3] at c3
      obtain rfl := hg
      clear hc hV e0 hsn e3 hss htx hnm hgl
      cases hv : bad V
      · have HF := Lib.hid (none_more hall.out HVK.out hv)
        rw [hv] at CV
        clear hv
        go_wp2_with fail
        refine Calls.mono (CV.out wr HB.out) ?_
        rintro e w1 ⟨rfl, hb⟩
        have HB1 := Lib.hid (HB.out.trans (hb.mono HB.out.size))
        clear hb
        go_wp2_with fail
        go_roundw
        case rel => exact ⟨k + 1, by omega, by go_num, HF, HB1.out⟩
        case measure => simp [intOf]; omega
      · have HF := Lib.hid (show res = true by rw [← HR.out, List.any_eq_true]; exact ⟨V, List.mem_of_getElem? HVK.out, hv⟩)
        rw [hv] at CV
        clear hv
        go_wp2_with fail
        refine Calls.mono (CV.out wr HB.out) ?_
        rintro e w1 ⟨rfl, hb⟩
        have HB1 := Lib.hid (HB.out.trans (hb.mono HB.out.size))
        clear hb
        go_wp2_with fail
        go_ret
        exact ⟨⟨k, Or.inl ⟨rfl, HF.out⟩⟩, HB1.out⟩
    · have hlz : ¬ (k : Int) < (n : Int) := by omega
      have hkk : k = n := by have := HN.out; have := HK.out; omega
      have HF := Lib.hid (show res = false by
        have := hall.out
        rw [hkk, HN.out, List.take_length] at this
        rw [← HR.out, List.any_eq_false]
        exact fun x hx => by rw [this x hx]; simp)
      go_wp2_with fail
      go_ret
      exact ⟨⟨0, Or.inr ⟨rfl, HF.out⟩⟩, HB.out⟩
set_option maxHeartbeats 2000000 in
set_option maxRecDepth 100000 in
theorem other_contains (l : List Nm) (t : List Bool) (a : Option Addr) (c : Nat) (b : Option Addr) (d : Nat) (p : Nat) (vs : List Att) (av : Option Addr) (cap : Nat) (w : World) (h : AttsAt w (Old w.heap.size) av vs) (hR : Rising l) (hlen : l.length = t.length) (hS : SchAt w l t a b) (hp : Two w p (.slice a l.length c) (.slice b t.length d)) :
    Calls Tryz.prog 32 #[.slice av vs.length cap, .func (.func 33) #[] #[.pointer (some ⟨p, 0, none⟩)]] w fun e w' => e = .returned (.bool (vs.any (fun v => !(v.text == isT l t v.name)))) ∧ Below w.heap.size w w' := by
  have HC := Lib.hid (other_index l t a c b d p vs av cap w h hR hlen hS hp)
  obtain ⟨res, hres⟩ : ∃ b, vs.any (fun v => !(v.text == isT l t v.name)) = b := ⟨_, rfl⟩
  rw [hres] at HC ⊢
  obtain ⟨n, hn⟩ : ∃ n, n = vs.length := ⟨_, rfl⟩
  rw [← hn] at HC ⊢
  clear hn hres h hR hlen hS hp
  go_enter Tryz.func32, Tryz.ntmps32
  go_wp2_with fail
  refine HC.out.mono ?_
  rintro e w1 ⟨⟨k, h⟩, hb⟩
  rcases h with ⟨rfl, rfl⟩ | ⟨rfl, rfl⟩
  · have hk : (0 : Int) ≤ (k : Int) := by omega
    go_wp2_with fail
    go_ret
    exact ⟨rfl, hb⟩
  · go_wp2_with fail
    go_ret
    exact ⟨rfl, hb⟩

set_option maxHeartbeats 2000000 in
set_option maxRecDepth 100000 in
theorem odd_index  (vs : List Att) (av : Option Addr) (cap : Nat) (w : World) (h : AttsAt w (Old w.heap.size) av vs) (hE : LaidE w) :
    Calls Tryz.prog 49 #[.slice av vs.length cap, .func (.func 35) #[] #[]] w fun e w' =>
      (∃ k : Nat, e = .returned (.int .i64 (k : Nat)) ∧ vs.any (oddB) = true ∨ e = .returned (.int .i64 (-1)) ∧ vs.any (oddB) = false) ∧ Below w.heap.size w w' := by
  obtain ⟨bad, hbad⟩ : ∃ x : Att → Bool, x = (oddB) := ⟨_, rfl⟩
  have CC := Lib.hid (show ∀ (v : Att), attOk v → ∀ W, Below w.heap.size w W → Calls Tryz.prog 35 #[.agg #[bs v.name, .bool v.text, .int .i64 v.num, bs v.str]] W fun e w' => e = .returned (.bool (bad v)) ∧ Below W.heap.size W w' by
    rw [hbad]
    intro v hv W hW
    exact ckNoValue_any ⟨v.name.toArray⟩ v.text v.num ⟨v.str.toArray⟩ hv.2.2.1 hv.2.2.2 (by rw [← size_list]; exact hv.2.1) W (hE.later hW))
  rw [← hbad]
  obtain ⟨res, hres⟩ : ∃ b, vs.any bad = b := ⟨_, rfl⟩
  have HR := Lib.hid hres
  rw [hres]
  clear hres hbad
  obtain ⟨n, hn⟩ : ∃ n, n = vs.length := ⟨_, rfl⟩
  have hm : n ≤ 9223372036854775807 := by have := h.1; unfold maxLen at this; omega
  have HN := Lib.hid hn
  have HA := Lib.hid h
  rw [← hn]
  clear hn h hE
  go_enter Tryz.func49, Tryz.ntmps49
  go_wp2_with fail
  go_loopw [8] (fun vi wr => IxR bad vs w vi wr) (fun vi _ => n - (intOf vi).toNat)
  case atStart => exact ⟨0, Nat.zero_le _, rfl, Lib.hid (by simp), Below.refl _ _⟩
  case round =>
    obtain ⟨k, hk, rfl, hall, hB⟩ := hrel
    have HK := Lib.hid hk
    have HB := Lib.hid hB
    clear hk hB
    by_cases hlt : k < n
    · have hlz : (k : Int) < (n : Int) := by omega
      have hkl : k < vs.length := by rw [← HN.out]; exact hlt
      obtain ⟨g, o, hg, hgl, hc⟩ := (HA.out.later HB.out).2.2 (by omega)
      obtain ⟨c0, c1, c2, c3⟩ := hc k hkl
      obtain ⟨V, hV⟩ : ∃ V, V = vs[k] := ⟨_, rfl⟩
      rw [← hV] at c0 c1 c2 c3
      have HVK := Lib.hid (show vs[k]? = some V by rw [hV]; exact List.getElem?_eq_getElem hkl)
      have HOK := Lib.hid (HA.out.2.1 V (List.mem_of_getElem? HVK.out))
      obtain ⟨sn, e0, hsn⟩ := bs_bytes V.name
      obtain ⟨ss, e3, hss⟩ := bs_bytes V.str
      obtain ⟨tx, htx⟩ : ∃ x, x = V.text := ⟨_, rfl⟩
      obtain ⟨nm, hnm⟩ : ∃ x, x = V.num := ⟨_, rfl⟩
      have CV := Lib.hid (CC.out V HOK.out)
      rw [e0, e3, ← htx, ← hnm] at CV
      rw [e0] at c0
      rw [← htx] at c1
      rw [← hnm] at c2
      rw [e3] at c3
      obtain rfl := hg
      clear hc hV e0 hsn e3 hss htx hnm hgl
      cases hv : bad V
      · have HF := Lib.hid (none_more hall.out HVK.out hv)
        rw [hv] at CV
        clear hv
        go_wp2_with fail
        refine Calls.mono (CV.out wr HB.out) ?_
        rintro e w1 ⟨rfl, hb⟩
        have HB1 := Lib.hid (HB.out.trans (hb.mono HB.out.size))
        clear hb
        go_wp2_with fail
        go_roundw
        case rel => exact ⟨k + 1, by omega, by go_num, HF, HB1.out⟩
        case measure => simp [intOf]; omega
      · have HF := Lib.hid (show res = true by rw [← HR.out, List.any_eq_true]; exact ⟨V, List.mem_of_getElem? HVK.out, hv⟩)
        rw [hv] at CV
        clear hv
        go_wp2_with fail
        refine Calls.mono (CV.out wr HB.out) ?_
        rintro e w1 ⟨rfl, hb⟩
        have HB1 := Lib.hid (HB.out.trans (hb.mono HB.out.size))
        clear hb
        go_wp2_with fail
        go_ret
        exact ⟨⟨k, Or.inl ⟨rfl, HF.out⟩⟩, HB1.out⟩
    · have hlz : ¬ (k : Int) < (n : Int) := by omega
      have hkk : k = n := by have := HN.out; have := HK.out; omega
      have HF := Lib.hid (show res = false by
        have := hall.out
        rw [hkk, HN.out, List.take_length] at this
        rw [← HR.out, List.any_eq_false]
        exact fun x hx => by rw [this x hx]; simp)
      go_wp2_with fail
      go_ret
      exact ⟨⟨0, Or.inr ⟨rfl, HF.out⟩⟩, HB.out⟩
set_option maxHeartbeats 2000000 in
set_option maxRecDepth 100000 in
theorem odd_contains  (vs : List Att) (av : Option Addr) (cap : Nat) (w : World) (h : AttsAt w (Old w.heap.size) av vs) (hE : LaidE w) :
    Calls Tryz.prog 32 #[.slice av vs.length cap, .func (.func 35) #[] #[]] w fun e w' => e = .returned (.bool (vs.any (oddB))) ∧ Below w.heap.size w w' := by
  have HC := Lib.hid (odd_index  vs av cap w h hE)
  obtain ⟨res, hres⟩ : ∃ b, vs.any (oddB) = b := ⟨_, rfl⟩
  rw [hres] at HC ⊢
  obtain ⟨n, hn⟩ : ∃ n, n = vs.length := ⟨_, rfl⟩
  rw [← hn] at HC ⊢
  clear hn hres h hE
  go_enter Tryz.func32, Tryz.ntmps32
  go_wp2_with fail
  refine HC.out.mono ?_
  rintro e w1 ⟨⟨k, h⟩, hb⟩
  rcases h with ⟨rfl, rfl⟩ | ⟨rfl, rfl⟩
  · have hk : (0 : Int) ≤ (k : Int) := by omega
    go_wp2_with fail
    go_ret
    exact ⟨rfl, hb⟩
  · go_wp2_with fail
    go_ret
    exact ⟨rfl, hb⟩
end Go.Proofs.YtmfkpoojfpepaaaGreatDoor.Ck
/-
  Contract of package check's Fits: what is told of attributes by a schema. Memory that was there is left as it was.
-/
namespace Go.Proofs.YtmfkpoojfpepaaaGreatDoor.Ck
open Go.RowKit Go.Maps Go.Proofs.YtmfkpoojfpepaaaGreatDoor.Fl Go.Proofs.YtmfkpoojfpepaaaGreatDoor.Tk
set_option linter.unusedVariables false
set_option linter.unusedSimpArgs false

theorem sortN_lt : ∀ L : List Nm, ¬ L.Nodup → (sortN L).length < L.length
  | [], h => absurd List.nodup_nil h
  | x :: L, h => by
    by_cases hx : x ∈ L
    · rw [sortN_congr (m := L) fun z => by
        rw [List.mem_cons]
        constructor
        · rintro (rfl | h)
          · exact hx
          · exact h
        · exact .inr]
      have := length_sortN L
      simp only [List.length_cons]
      omega
    · have hL : ¬ L.Nodup := fun h2 => h (List.nodup_cons.2 ⟨hx, h2⟩)
      have e : sortN (x :: L) = insN (sortN L) x := rising_ext (rising_sortN _) (rising_insN (rising_sortN _)) fun z => by
        rw [mem_sortN, mem_insN, mem_sortN, List.mem_cons, or_comm]
      rw [e]
      have h1 := length_insN (sortN L) x
      have h2 := sortN_lt L hL
      simp only [List.length_cons]
      omega
theorem sortN_eq {L : List Nm} (h : L.Nodup) : (sortN L).length = L.length :=
  ((List.perm_ext_iff_of_nodup (rising_sortN L).nodup h).2 (fun x => mem_sortN L x)).length_eq
set_option maxHeartbeats 8000000 in
set_option maxRecDepth 100000 in
theorem fits_any (l : List Nm) (t : List Bool) (a0 : Option Addr) (c0 : Nat) (b0 : Option Addr) (d0 : Nat) (vs : List Att) (av : Option Addr) (cap : Nat) (w : World) (hE : LaidE w) (hS : SchAt w l t a0 b0) (hA : AttsAt w (Old w.heap.size) av vs) :
    Calls Tryz.prog 15 #[.agg #[.slice a0 l.length c0, .slice b0 t.length d0], .slice av vs.length cap] w fun e w' => e = .returned (errV (fitN l t vs)) ∧ Below w.heap.size w w' := by
  have CS := Lib.hid (fun W h1 h2 => isSchema_any l t a0 c0 b0 d0 W h1 h2)
  have CN := Lib.hid (fun W h1 h2 => namesOf_any vs av cap W h1 h2)
  have CH := Lib.hid (fun g m L W h1 h2 h3 h4 => hasAll_any l t a0 c0 b0 d0 g m L W h1 h2 h3 h4)
  have CO := Lib.hid (fun p W h1 h2 h3 h4 h5 => other_contains l t a0 c0 b0 d0 p vs av cap W h1 h2 h3 h4 h5)
  have CD := Lib.hid (fun W h1 h2 => odd_contains vs av cap W h1 h2)
  obtain ⟨nn, hnn⟩ : ∃ x, x = l.length := ⟨_, rfl⟩
  obtain ⟨nt, hnt⟩ : ∃ x, x = t.length := ⟨_, rfl⟩
  obtain ⟨n, hn⟩ : ∃ x, x = vs.length := ⟨_, rfl⟩
  have HNN := Lib.hid hnn
  have HNT := Lib.hid hnt
  have HN := Lib.hid hn
  have hbig : n ≤ 9223372036854775807 := by have := hA.1; unfold maxLen at this; omega
  rw [← hn] at CN CO CD ⊢
  rw [← hnn, ← hnt] at CS CH CO ⊢
  have HE := Lib.hid hE
  have HS := Lib.hid hS
  have HA := Lib.hid hA
  obtain ⟨res, hres⟩ : ∃ x, x = fitN l t vs := ⟨_, rfl⟩
  have HR := Lib.hid hres
  rw [← hres]
  clear hE hS hA hres hnn hnt hn
  obtain ⟨w1, hw1⟩ : ∃ v, v = w.alloc (.cells #[.slice a0 nn c0, .slice b0 nt d0] 37) := ⟨_, rfl⟩
  have X1 := Lib.hid (show Two w1 w.heap.size (.slice a0 nn c0) (.slice b0 nt d0) by rw [hw1]; exact Two.new ..)
  have HB := Lib.hid (show Below w.heap.size w w1 by rw [hw1]; exact (Below.refl _ _).alloc (Nat.le_refl _) _)
  have HW := Lib.hid hw1
  clear hw1
  go_enter Tryz.func15, Tryz.ntmps15
  go_wp2_with fail
  rw [← HW.out]
  refine Calls.mono (CS.out _ (HE.out.later HB.out) (HS.out.fit HB.out)) ?_
  rintro e w2 ⟨rfl, hb⟩
  have HB2 := Lib.hid (HB.out.trans (hb.mono HB.out.size))
  have X2 := Lib.hid (X1.out.later hb)
  obtain ⟨q0, q1⟩ := X2.out
  clear hb
  cases hsb : schB l t with
  | false =>
    have HF0 := Lib.hid (show res = 1 by rw [HR.out]; unfold fitN; rw [hsb]; simp)
    go_wp2_with fail
    go_ret
    exact ⟨by rw [HF0.out]; rfl, HB2.out⟩
  | true =>
    have HRI := Lib.hid (sch_rising hsb)
    have HNE := Lib.hid (show nn = nt by rw [HNN.out, HNT.out]; exact HRI.out.2)
    have HR2 := Lib.hid (show res = if 16 < vs.length then 5 else if ¬ (attNms vs).Nodup then 10 else if (attNms vs).all (hasN l t) = true then (if vs.any (fun v => !(v.text == isT l t v.name)) = true then 4 else if vs.any oddB = true then 1 else 0) else 9 by rw [HR.out]; unfold fitN; rw [if_pos hsb])
    clear hsb
    by_cases h16 : 16 < n
    · have h16z : (16 : Int) < (n : Int) := by omega
      have HF0 := Lib.hid (show res = 5 by rw [HR2.out, if_pos (by have := HN.out; omega)])
      go_wp2_with fail
      go_ret
      exact ⟨by rw [HF0.out]; rfl, HB2.out⟩
    · have h16z : ¬ (16 : Int) < (n : Int) := by omega
      have HR3 := Lib.hid (show res = if ¬ (attNms vs).Nodup then 10 else if (attNms vs).all (hasN l t) = true then (if vs.any (fun v => !(v.text == isT l t v.name)) = true then 4 else if vs.any oddB = true then 1 else 0) else 9 by rw [HR2.out, if_neg (by have := HN.out; omega)])
      go_wp2_with fail
      refine Calls.mono (CN.out _ (by have := HN.out; omega) (attsFit HA.out HB2.out HB2.out.size)) ?_
      rintro e w3 ⟨⟨g, rfl, hg, hset⟩, hb⟩
      have HB3 := Lib.hid (HB2.out.trans (hb.mono HB2.out.size))
      have X3 := Lib.hid (X2.out.later hb)
      clear hb q0 q1
      obtain ⟨q0, q1⟩ := X3.out
      obtain ⟨D, hown, hD⟩ := hset
      have hsz := set_size hown hD
      clear hD hg
      obtain ⟨x, hx⟩ : ∃ x, x = Maps.size D := ⟨_, rfl⟩
      have HX := Lib.hid (show x = (sortN (attNms vs)).length by rw [hx, hsz])
      have HLA := Lib.hid (show (attNms vs).length = n by rw [HN.out]; simp [attNms])
      clear hsz
      by_cases hnd : (attNms vs).Nodup
      · have hxn : ¬ ((x : Nat) : Int) < (n : Int) := by have := HX.out; have := HLA.out; rw [sortN_eq hnd] at *; omega
        have HR4 := Lib.hid (show res = if (attNms vs).all (hasN l t) = true then (if vs.any (fun v => !(v.text == isT l t v.name)) = true then 4 else if vs.any oddB = true then 1 else 0) else 9 by rw [HR3.out, if_neg (not_not_intro hnd)])
        clear hnd
        have HQ := Lib.hid (show ∀ W, Below w3.heap.size w3 W → (fun W => W.cell? ⟨w.heap.size, 0, none⟩ = some (.slice a0 nn c0) ∧ W.cell? ⟨w.heap.size, 1, none⟩ = some (.slice b0 nt d0) ∧ Below w3.heap.size w3 W) W from fun W hW => by
          obtain ⟨x0, x1⟩ := X3.out.later hW
          exact ⟨x0, x1, hW⟩)
        obtain ⟨ok, hok⟩ : ∃ x, x = (attNms vs).all (hasN l t) := ⟨_, rfl⟩
        rw [← hok] at HR4
        have CHF := Lib.hid (fun g m W h1 h2 => CH.out g m (attNms vs) W HRI.out.1 HNE.out h1 h2)
        rw [← hok] at CHF
        clear hok
        cases ok with
        | false =>
          have HF0 := Lib.hid (show res = 9 by rw [HR4.out]; simp)
          go_wp2_with (first
            | (at_len; refine wpList_len_own _ rfl _ 53 rfl 9 54 Tryz.underlying53 unitElem g _ _ rfl hown ?_; rw [← hx])
            | fail)
          refine wp_region_held_drew (S := (fun W => W.cell? ⟨w.heap.size, 0, none⟩ = some (.slice a0 nn c0) ∧ W.cell? ⟨w.heap.size, 1, none⟩ = some (.slice b0 nt d0) ∧ Below w3.heap.size w3 W)) (by kernel_rfl) (HQ.out _ (Below.refl _ _).drew) (fun hHeld => ?_)
          refine wpAnyH_take (i := 0) (v := ?vA0) rfl (by kernel_rfl) (by kernel_rfl) (by kernel_rfl) (fun _ _ _ h => h) (Or.inl ⟨by rfl, ?yA0⟩) hHeld ?rA0
          case yA0 => (intro W hSw; simp only [List.getElem_toArray, List.getElem_cons_zero]; go_simp; try (with_reducible rfl))
          simp only [List.getElem_toArray, List.getElem_cons_zero, Act.put, List.setIfInBounds_toArray, List.set_cons_zero, List.set_cons_succ]
          refine wpAnyH_take (i := 1) (v := ?vA1) rfl (by kernel_rfl) (by kernel_rfl) (by kernel_rfl) (fun _ _ _ h => h) (Or.inl ⟨by rfl, ?yA1⟩) hHeld ?rA1
          case yA1 => (intro W hSw; simp only [List.getElem_toArray, List.getElem_cons_succ, List.getElem_cons_zero]; go_simp; try (with_reducible rfl))
          simp only [List.getElem_toArray, List.getElem_cons_succ, List.getElem_cons_zero, Act.put, List.setIfInBounds_toArray, List.set_cons_zero, List.set_cons_succ]
          refine wpAnyH_ready (rs := [2]) (by kernel_rfl) (by simp) (AllReadyH.cons rfl (fun K hK => ?_) AllReadyH.nil)
          simp only [List.getElem_toArray, List.getElem_cons_succ, List.getElem_cons_zero]
          go_simp
          go_at_call 31; refine (CN.out _ (by have := HN.out; omega) (attsFit HA.out (HB3.out.trans (hHeld.2.2.mono HB3.out.size)) (HB3.out.trans (hHeld.2.2.mono HB3.out.size)).size)).mono ?_; rintro e wq ⟨⟨g2, rfl, hg, hset⟩, hb1⟩
          try go_wp2_with fail
          refine hK.out _ _ (HQ.out _ (hHeld.2.2.trans (hb1.mono hHeld.2.2.size))) (fun hHeld1 => ?_)
          clear hK K hHeld
          have hHeld := hHeld1; clear hHeld1
          try simp only [List.getElem_toArray, List.getElem_cons_succ, List.getElem_cons_zero, Act.put, List.setIfInBounds_toArray, List.set_cons_zero, List.set_cons_succ]
          refine wpAnyH_ready (rs := [3]) (by kernel_rfl) (by simp) (AllReadyH.cons rfl (fun K hK => ?_) AllReadyH.nil)
          simp only [List.getElem_toArray, List.getElem_cons_succ, List.getElem_cons_zero]
          go_simp
          go_at_call 25; refine (CHF.out g2 _ _ (HS.out.fit (HB3.out.trans (hHeld.2.2.mono HB3.out.size))) (by first | exact hset | exact hset.later (Below.refl _ _).drew)).mono ?_; rintro e wq2 ⟨rfl, hb1⟩
          try go_wp2_with fail
          refine hK.out _ _ (HQ.out _ (hHeld.2.2.trans (hb1.mono hHeld.2.2.size))) (fun hHeld1 => ?_)
          clear hK K hHeld
          have hHeld := hHeld1; clear hHeld1
          try simp only [List.getElem_toArray, List.getElem_cons_succ, List.getElem_cons_zero, Act.put, List.setIfInBounds_toArray, List.set_cons_zero, List.set_cons_succ]
          refine wpAnyH_take (i := 4) (v := ?vA4) rfl (by kernel_rfl) (by kernel_rfl) (by kernel_rfl) (fun _ _ _ h => h) (Or.inl ⟨by rfl, ?yA4⟩) hHeld ?rA4
          case yA4 => (intro W hSw; simp only [List.getElem_toArray, List.getElem_cons_succ, List.getElem_cons_zero]; go_simp; try (with_reducible rfl))
          simp only [List.getElem_toArray, List.getElem_cons_succ, List.getElem_cons_zero, Act.put, List.setIfInBounds_toArray, List.set_cons_zero, List.set_cons_succ]
          refine wpAnyH_take (i := 5) (v := ?vA5) rfl (by kernel_rfl) (by kernel_rfl) (by kernel_rfl) (fun _ _ _ h => h) (Or.inl ⟨by rfl, ?yA5⟩) hHeld ?rA5
          case yA5 => (intro W hSw; simp only [List.getElem_toArray, List.getElem_cons_succ, List.getElem_cons_zero]; go_simp; try (with_reducible rfl))
          simp only [List.getElem_toArray, List.getElem_cons_succ, List.getElem_cons_zero, Act.put, List.setIfInBounds_toArray, List.set_cons_zero, List.set_cons_succ]
          refine wpAnyH_done (by kernel_rfl) ?_ _
          have B7 := Lib.hid (HB3.out.trans (hHeld.2.2.mono HB3.out.size))
          clear hHeld hset hg hb1
          go_wp2_with fail
          go_ret
          exact ⟨by rw [HF0.out]; rfl, B7.out⟩
        | true =>
          have COF := Lib.hid (fun p W h1 h2 h3 => CO.out p W h1 HRI.out.1 HNE.out h2 h3)
          have HR5 := Lib.hid (show res = if vs.any (fun v => !(v.text == isT l t v.name)) = true then 4 else if vs.any oddB = true then 1 else 0 by rw [HR4.out, if_pos rfl])
          obtain ⟨ot, hot⟩ : ∃ x, x = vs.any (fun v => !(v.text == isT l t v.name)) := ⟨_, rfl⟩
          rw [← hot] at HR5 COF
          obtain ⟨od, hod⟩ : ∃ x, x = vs.any oddB := ⟨_, rfl⟩
          rw [← hod] at HR5 CD
          clear hot hod
          go_wp2_with (first
            | (at_len; refine wpList_len_own _ rfl _ 53 rfl 9 54 Tryz.underlying53 unitElem g _ _ rfl hown ?_; rw [← hx])
            | fail)
          refine wp_region_held_drew (S := (fun W => W.cell? ⟨w.heap.size, 0, none⟩ = some (.slice a0 nn c0) ∧ W.cell? ⟨w.heap.size, 1, none⟩ = some (.slice b0 nt d0) ∧ Below w3.heap.size w3 W)) (by kernel_rfl) (HQ.out _ (Below.refl _ _).drew) (fun hHeld => ?_)
          refine wpAnyH_take (i := 0) (v := ?vB0) rfl (by kernel_rfl) (by kernel_rfl) (by kernel_rfl) (fun _ _ _ h => h) (Or.inl ⟨by rfl, ?yB0⟩) hHeld ?rB0
          case yB0 => (intro W hSw; simp only [List.getElem_toArray, List.getElem_cons_zero]; go_simp; try (with_reducible rfl))
          simp only [List.getElem_toArray, List.getElem_cons_zero, Act.put, List.setIfInBounds_toArray, List.set_cons_zero, List.set_cons_succ]
          refine wpAnyH_take (i := 1) (v := ?vB1) rfl (by kernel_rfl) (by kernel_rfl) (by kernel_rfl) (fun _ _ _ h => h) (Or.inl ⟨by rfl, ?yB1⟩) hHeld ?rB1
          case yB1 => (intro W hSw; simp only [List.getElem_toArray, List.getElem_cons_succ, List.getElem_cons_zero]; go_simp; try (with_reducible rfl))
          simp only [List.getElem_toArray, List.getElem_cons_succ, List.getElem_cons_zero, Act.put, List.setIfInBounds_toArray, List.set_cons_zero, List.set_cons_succ]
          refine wpAnyH_ready (rs := [2]) (by kernel_rfl) (by simp) (AllReadyH.cons rfl (fun K hK => ?_) AllReadyH.nil)
          simp only [List.getElem_toArray, List.getElem_cons_succ, List.getElem_cons_zero]
          go_simp
          go_at_call 31; refine (CN.out _ (by have := HN.out; omega) (attsFit HA.out (HB3.out.trans (hHeld.2.2.mono HB3.out.size)) (HB3.out.trans (hHeld.2.2.mono HB3.out.size)).size)).mono ?_; rintro e wq ⟨⟨g2, rfl, hg, hset⟩, hb1⟩
          try go_wp2_with fail
          refine hK.out _ _ (HQ.out _ (hHeld.2.2.trans (hb1.mono hHeld.2.2.size))) (fun hHeld1 => ?_)
          clear hK K hHeld
          have hHeld := hHeld1; clear hHeld1
          try simp only [List.getElem_toArray, List.getElem_cons_succ, List.getElem_cons_zero, Act.put, List.setIfInBounds_toArray, List.set_cons_zero, List.set_cons_succ]
          refine wpAnyH_ready (rs := [3]) (by kernel_rfl) (by simp) (AllReadyH.cons rfl (fun K hK => ?_) AllReadyH.nil)
          simp only [List.getElem_toArray, List.getElem_cons_succ, List.getElem_cons_zero]
          go_simp
          go_at_call 25; refine (CHF.out g2 _ _ (HS.out.fit (HB3.out.trans (hHeld.2.2.mono HB3.out.size))) (by first | exact hset | exact hset.later (Below.refl _ _).drew)).mono ?_; rintro e wq2 ⟨rfl, hb1⟩
          try go_wp2_with fail
          refine hK.out _ _ (HQ.out _ (hHeld.2.2.trans (hb1.mono hHeld.2.2.size))) (fun hHeld1 => ?_)
          clear hK K hHeld
          have hHeld := hHeld1; clear hHeld1
          try simp only [List.getElem_toArray, List.getElem_cons_succ, List.getElem_cons_zero, Act.put, List.setIfInBounds_toArray, List.set_cons_zero, List.set_cons_succ]
          refine wpAnyH_take (i := 4) (v := ?vB4) rfl (by kernel_rfl) (by kernel_rfl) (by kernel_rfl) (fun _ _ _ h => h) (Or.inl ⟨by rfl, ?yB4⟩) hHeld ?rB4
          case yB4 => (intro W hSw; simp only [List.getElem_toArray, List.getElem_cons_succ, List.getElem_cons_zero]; go_simp; try (with_reducible rfl))
          simp only [List.getElem_toArray, List.getElem_cons_succ, List.getElem_cons_zero, Act.put, List.setIfInBounds_toArray, List.set_cons_zero, List.set_cons_succ]
          refine wpAnyH_take (i := 5) (v := ?vB5) rfl (by kernel_rfl) (by kernel_rfl) (by kernel_rfl) (fun _ _ _ h => h) (Or.inl ⟨by rfl, ?yB5⟩) hHeld ?rB5
          case yB5 => (intro W hSw; simp only [List.getElem_toArray, List.getElem_cons_succ, List.getElem_cons_zero]; go_simp; try (with_reducible rfl))
          simp only [List.getElem_toArray, List.getElem_cons_succ, List.getElem_cons_zero, Act.put, List.setIfInBounds_toArray, List.set_cons_zero, List.set_cons_succ]
          refine wpAnyH_done (by kernel_rfl) ?_ _
          have B7 := Lib.hid (HB3.out.trans (hHeld.2.2.mono HB3.out.size))
          obtain ⟨x0, x1, hX7⟩ := hHeld
          have X7 := Lib.hid (X3.out.later hX7)
          clear hset hg hb1
          go_wp2_with fail
          refine Calls.mono (COF.out _ _ (attsFit HA.out B7.out B7.out.size) (HS.out.fit B7.out) X7.out) ?_
          rintro e w8 ⟨rfl, hb⟩
          have HB8 := Lib.hid (B7.out.trans (hb.mono B7.out.size))
          clear hb
          cases ot with
          | true =>
            have HF0 := Lib.hid (show res = 4 by rw [HR5.out]; simp)
            go_wp2_with fail
            go_ret
            exact ⟨by rw [HF0.out]; rfl, HB8.out⟩
          | false =>
            go_wp2_with fail
            refine Calls.mono (CD.out _ (attsFit HA.out HB8.out HB8.out.size) (HE.out.later HB8.out)) ?_
            rintro e w9 ⟨rfl, hb⟩
            have HB9 := Lib.hid (HB8.out.trans (hb.mono HB8.out.size))
            clear hb
            cases od with
            | true =>
              have HF0 := Lib.hid (show res = 1 by rw [HR5.out]; simp)
              go_wp2_with fail
              go_ret
              exact ⟨by rw [HF0.out]; rfl, HB9.out⟩
            | false =>
              have HF0 := Lib.hid (show res = 0 by rw [HR5.out]; simp)
              go_wp2_with fail
              go_ret
              exact ⟨by rw [HF0.out]; rfl, HB9.out⟩
      · have hxn : ((x : Nat) : Int) < (n : Int) := by have h1 := sortN_lt _ hnd; have := HX.out; have := HLA.out; omega
        have HF0 := Lib.hid (show res = 10 by rw [HR3.out, if_pos hnd])
        clear hnd
        go_wp2_with (first
          | (at_len; refine wpList_len_own _ rfl _ 53 rfl 9 54 Tryz.underlying53 unitElem g _ _ rfl hown ?_; rw [← hx])
          | go_in)
        go_ret
        exact ⟨by rw [HF0.out]; rfl, HB3.out⟩
end Go.Proofs.YtmfkpoojfpepaaaGreatDoor.Ck
namespace Go.Proofs.YtmfkpoojfpepaaaGreatDoor.Ck
open Go.RowKit Go.Proofs.YtmfkpoojfpepaaaGreatDoor.Fl Go.Proofs.YtmfkpoojfpepaaaGreatDoor.Tk
set_option linter.unusedVariables false
set_option linter.unusedSimpArgs false

theorem bs_one (l : List Nm) : ∀ u ∈ l.map bs, u.oneCell' = true := by
  intro u hu
  obtain ⟨x, _, rfl⟩ := List.mem_map.1 hu
  rfl
theorem rowLt {W : World} {base n k : Nat} {t : TypeId} {v : Value} {xs : List Value} (h : W.ownsRow base t k v n xs) {g : Nat} (hg : v.ownBlock = some g) : base ≤ g ∧ g < W.heap.size := by
  rcases h.2 with ⟨rfl, _⟩ | ⟨g', cap, cur, rfl, hb, hh, _⟩
  · simp [Value.ownBlock] at hg
  · simp [Value.ownBlock] at hg
    subst hg
    exact ⟨hb, (Array.getElem?_eq_some_iff.1 hh).1⟩
theorem rowKeep {W V : World} {base n k : Nat} {t : TypeId} {v : Value} {xs : List Value} (h : W.ownsRow base t k v n xs) (hk : ∀ g, v.ownBlock = some g → V.heap[g]? = W.heap[g]?) : V.ownsRow base t k v n xs := by
  refine ⟨h.1, ?_⟩
  rcases h.2 with h | ⟨g, cap, cur, rfl, hb, hh, r⟩
  · exact .inl h
  · exact .inr ⟨g, cap, cur, rfl, hb, (hk g rfl).trans hh, r⟩
theorem infoS : (Tryz.prog.info? 9).map (fun i => (i.zero, i.size, i.bytes)) = some (some (.string ⟨#[]⟩), 1, 16) := by kernel_rfl
theorem row_wide {W : World} {base base' n k : Nat} {t : TypeId} {v : Value} {xs : List Value} (h : W.ownsRow base t k v n xs) (hb : base' ≤ base) : W.ownsRow base' t k v n xs := by
  refine ⟨h.1, ?_⟩
  rcases h.2 with h | ⟨g, cap, cur, e, hg, r⟩
  · exact .inl h
  · exact .inr ⟨g, cap, cur, e, Nat.le_trans hb hg, r⟩
theorem own_below {k : Nat} {w W V : World} {n : Nat} {t : TypeId} {u : Value} {xs : List Value} (hB : Below w.heap.size w W) (h : W.ownsRow w.heap.size t k u n xs) (hg : W.grownBy V u.ownBlock) : Below w.heap.size w V :=
  hB.trans ⟨hg.os, hg.tape, hg.output, hg.size, fun i hi => hg.block i (Nat.lt_of_lt_of_le hi hB.size) (by
    intro e
    rcases h.2 with ⟨rfl, _⟩ | ⟨g, cap, cur, rfl, hl, _⟩
    · simp [Value.ownBlock] at e
    · simp [Value.ownBlock] at e; omega)⟩
theorem gr_own {z : Nat} {W V : World} (hz : z ≤ W.heap.size) (hg : W.grownBy V (Value.ownBlock (.slice none 0 0))) : Below z W V :=
  ⟨hg.os, hg.tape, hg.output, hg.size, fun i hi => hg.block i (Nat.lt_of_lt_of_le hi hz) (by simp [Value.ownBlock])⟩
/-- A row of names of the call's own; nil, if there are none. -/
def RowEnd (z : Nat) (L : List Nm) (w' : World) (e : Ending) : Prop := ∃ v, e = .returned v ∧ w'.ownsRow z 9 1 v L.length (L.map bs) ∧ (L = [] → v = .slice none 0 0)
def RnOk (f : Flt) : Prop := ∀ (a : Option Addr) (c : Nat) (b : Option Addr) (d : Nat) (w : World), FltAt w (Old w.heap.size) f a b → (nms f).length ≤ 2000000 →
  Calls Tryz.prog 22 #[.agg #[.int .i64 f.kind, bs f.name, bs f.op, .slice a f.vals.length c, .slice b f.parts.length d]] w fun e w' => RowEnd w.heap.size (nms f) w' e ∧ Below w.heap.size w w'
def RnR (pre : List Nm) (ps : List Flt) (w : World) (va vi : Value) (wr : World) : Prop :=
  ∃ j : Nat, j ≤ ps.length ∧ vi = .int .i64 j ∧ wr.ownsRow w.heap.size 9 1 va (pre ++ nmsL (ps.take j)).length ((pre ++ nmsL (ps.take j)).map bs) ∧ Hid (pre ++ nmsL (ps.take j) = [] → va = .slice none 0 0) ∧ Below w.heap.size w wr
set_option maxHeartbeats 8000000 in
set_option maxRecDepth 100000 in
theorem rn_ok (f : Flt) (ih : ∀ q ∈ f.parts, RnOk q) : RnOk f := by
  obtain ⟨i0, hi, hz0, hz1, hz2⟩ := info_cut infoS
  obtain ⟨k, nm, o, vs, ps⟩ := f
  intro a c b d w hF h5k
  simp only [Flt.kind, Flt.name, Flt.op, Flt.vals, Flt.parts] at ih ⊢
  obtain ⟨sn, en, hsn⟩ := bs_bytes nm
  obtain ⟨so, eo, hso⟩ := bs_bytes o
  rw [en, eo]
  have HEN := Lib.hid en
  have IH := Lib.hid ih
  have HP := Lib.hid hF.parts
  simp only [Flt.parts] at HP
  have HSN := Lib.hid hsn
  have hlen : ps.length ≤ 9223372036854775807 := by have := hF.small.2.2.2.2; simp only [Flt.parts] at this; unfold maxLen at this; omega
  obtain ⟨n, hn⟩ : ∃ n, n = vs.length := ⟨_, rfl⟩
  obtain ⟨l, hl⟩ : ∃ n, n = ps.length := ⟨_, rfl⟩
  have HL := Lib.hid hl
  rw [← hl] at hlen
  have HSZ := Lib.hid (show (nmsL ps).length ≤ 2000000 by rw [nms, List.length_append] at h5k; omega)
  rw [← hn, ← hl]
  clear ih hF en eo hso hn hl h5k
  obtain ⟨w1, hw1⟩ : ∃ v, v = w.alloc (.cells #[.int .i64 k, .string sn, .string so, .slice a n c, .slice b l d] 27) := ⟨_, rfl⟩
  have X1 := Lib.hid (show Box w1 w.heap.size (.int .i64 k) (.string sn) (.string so) (.slice a n c) (.slice b l d) by rw [hw1]; exact Box.new ..)
  have HB := Lib.hid (show Below w.heap.size w w1 by rw [hw1]; exact (Below.refl _ _).alloc (Nat.le_refl _) _)
  have HW := Lib.hid hw1
  clear hw1
  obtain ⟨p0, p1, p2, p3, p4⟩ := X1.out
  by_cases hnm : nm = []
  · have HPQ := Lib.hid (show nms (.mk k nm o vs ps) = [] ++ nmsL ps by rw [nms, if_pos hnm])
    obtain rfl : sn = ⟨#[]⟩ := eq_list (by rw [hsn, hnm])
    clear hsn hnm
    go_enter Tryz.func22, Tryz.ntmps22
    go_wp2_with fail
    rw [← HW.out]
    go_loopw [3, 4] (fun va vi wr => RnR [] ps w1 va vi wr) (fun _ vi _ => l - (intOf vi).toNat)
    case atStart => exact ⟨0, Nat.zero_le _, rfl, by simpa [nmsL] using World.ownsRow_nil w1 w1.heap.size 9 1, Lib.hid (fun _ => rfl), Below.refl _ _⟩
    case round =>
      obtain ⟨j, hk, rfl, hrow, hnil, hBB⟩ := hrel
      have HK := Lib.hid hk
      have HBB := Lib.hid hBB
      have HBW := Lib.hid (HB.out.trans (hBB.mono HB.out.size))
      have X3 := Lib.hid (X1.out.later hBB)
      have HRO := Lib.hid hrow
      have HNI := Lib.hid hnil.out
      obtain ⟨p0, p1, p2, p3, p4⟩ := X3.out
      clear hk hBB hrow hnil
      by_cases hlt : j < l
      · have hlz : (j : Int) < (l : Int) := by omega
        have hku : j < ps.length := by rw [← HL.out]; exact hlt
        obtain ⟨g, o', a1, c1, b1, d1, hg, hgl, h5, hf⟩ := (HP.out.later HBW.out).get j hku
        obtain ⟨U, hU⟩ : ∃ V, V = ps[j] := ⟨_, rfl⟩
        rw [← hU] at h5 hf
        have HUK := Lib.hid (show ps[j]? = some U by rw [hU]; exact List.getElem?_eq_getElem hku)
        have CI := Lib.hid (fun W h1 h2 => IH.out U (List.mem_of_getElem? HUK.out) a1 c1 b1 d1 W h1 h2)
        have HFU4 := Lib.hid (hf.wide HBW.out.size)
        have hgw : g < wr.heap.size := Nat.lt_of_lt_of_le hgl HBW.out.size
        subst hg
        obtain ⟨e0, e1, e2, e3, e4⟩ := h5
        rw [Nat.zero_add] at e0 e1 e2 e3 e4
        obtain ⟨un, hun, _⟩ := bs_bytes U.name
        obtain ⟨uo, huo, _⟩ := bs_bytes U.op
        rw [hun] at e1 CI
        rw [huo] at e2 CI
        obtain ⟨uk, huk⟩ : ∃ x, x = U.kind := ⟨_, rfl⟩
        obtain ⟨uv, huv⟩ : ∃ x, x = U.vals.length := ⟨_, rfl⟩
        obtain ⟨up, hup⟩ : ∃ x, x = U.parts.length := ⟨_, rfl⟩
        rw [← huk] at e0 CI
        rw [← huv] at e3 CI
        rw [← hup] at e4 CI
        have HU5 := Lib.hid (show (nms U).length ≤ 2000000 by have := nmsL_one (List.mem_of_getElem? HUK.out); have := HSZ.out; omega)
        have HLE := Lib.hid (show ([] ++ nmsL (ps.take j)).length ≤ 3000000 by have h1 := nmsL_take_le ps j; have h2 := HSZ.out; rw [List.length_append]; simp only [List.length_nil]; omega)
        have HEQ := Lib.hid (show [] ++ nmsL (ps.take (j + 1)) = ([] ++ nmsL (ps.take j)) ++ nms U by rw [nmsL_step HUK.out, List.append_assoc])
        clear hU hf hgl hun huo huk huv hup
        by_cases hne : nms U = []
        · have HNE := Lib.hid hne
          clear hne
          go_wp2_with fail
          refine Calls.mono (CI.out _ HFU4.out HU5.out) ?_
          rintro e w5 ⟨⟨v2, rfl, hrow2, hnil2⟩, hb⟩
          have HB5 := Lib.hid (HBB.out.trans (hb.mono HBB.out.size))
          have hrow5 := rowKeep HRO.out (V := w5) (fun g hg => hb.block g (rowLt HRO.out hg).2)
          have HSB := Lib.hid (show w1.heap.size ≤ w5.heap.size from HB5.out.size)
          have HRO5 := Lib.hid hrow5
          clear hb
          obtain rfl := hnil2 HNE.out
          clear hnil2 hrow2
          go_wp2_with (first
            | (at_builtin; refine wpList_append_own_none rfl _ _ 22 rfl w1.heap.size 9 i0 1 Tryz.underlying22 hi _ _ _ rfl hrow5 rfl ?_)
            | go_in)
          go_roundw
          case rel =>
            refine ⟨j + 1, by have := HL.out; omega, by go_num, ?_, Lib.hid ?_, HB5.out⟩
            · rw [HEQ.out, HNE.out, List.append_nil]; exact HRO5.out
            · rw [HEQ.out, HNE.out, List.append_nil]; exact HNI.out
          case measure => simp [intOf]; omega
        · have HNE := Lib.hid hne
          clear hne
          go_wp2_with fail
          refine Calls.mono (CI.out _ HFU4.out HU5.out) ?_
          rintro e w5 ⟨⟨v2, rfl, hrow2, hnil2⟩, hb⟩
          have HB5 := Lib.hid (HBB.out.trans (hb.mono HBB.out.size))
          have hrow5 := rowKeep HRO.out (V := w5) (fun g hg => hb.block g (rowLt HRO.out hg).2)
          have HSB := Lib.hid (show w1.heap.size ≤ w5.heap.size from HB5.out.size)
          have HRO5 := Lib.hid hrow5
          clear hb
          clear hnil2
          have hm0 : 0 < (nms U).length := List.length_pos_iff.2 HNE.out
          obtain ⟨g2, c2, rfl, hc2⟩ : ∃ g2 c2, v2 = .slice (some ⟨g2, 0, none⟩) (nms U).length c2 ∧ ∀ j u, ((nms U).map bs)[j]? = some u → w5.cell? ((⟨g2, 0, none⟩ : Addr).add j) = some u := by
            rcases hrow2.2 with ⟨_, h⟩ | ⟨g2, c2, cur, rfl, _⟩
            · omega
            · exact ⟨g2, c2, rfl, hrow2.cells rfl⟩
          have HC2 := Lib.hid hc2
          clear hrow2 hc2
          go_wp2_with (first
            | (at_builtin; refine wpList_append_own _ rfl _ _ 22 rfl w1.heap.size 9 i0 (.string ⟨#[]⟩) 1 16 Tryz.underlying22 hi hz0 hz1 hz2 rfl (by decide) _ _ _ rfl hrow5 ⟨g2, 0, none⟩ (nms U).length c2 ((nms U).map bs) rfl (by simp) HC2.out (bs_one _) (by have := HLE.out; have := HU5.out; unfold maxLen; omega) (by have := HLE.out; have := HU5.out; omega) HSB.out ?_; intro v' w6 hrow6 hg6 hn6)
            | go_in)
          have HB6 := Lib.hid (own_below HB5.out HRO5.out hg6)
          have HRO6 := Lib.hid hrow6
          clear hn6 hrow6 hg6
          go_roundw
          case rel =>
            refine ⟨j + 1, by have := HL.out; omega, by go_num, ?_, Lib.hid ?_, HB6.out⟩
            · rw [HEQ.out, List.map_append, List.length_append]; exact HRO6.out
            · intro h; rw [HEQ.out] at h; exact absurd (List.append_eq_nil_iff.1 h).2 HNE.out
          case measure => simp [intOf]; omega
      · have hlz : ¬ (j : Int) < (l : Int) := by omega
        have HE : [] ++ nmsL (ps.take j) = nms (.mk k nm o vs ps) := by rw [show j = ps.length by have := HL.out; have := HK.out; omega, List.take_length, ← HPQ.out]
        have HF := Lib.hid (show _ ∧ _ from ⟨HRO.out, HNI.out⟩)
        rw [HE] at HF
        clear HE HRO HNI
        have HRW := Lib.hid (row_wide HF.out.1 HB.out.size)
        go_wp2_with fail
        go_ret
        exact ⟨⟨_, rfl, HRW.out, HF.out.2⟩, HBW.out⟩
  · have HPQ := Lib.hid (show nms (.mk k nm o vs ps) = [nm] ++ nmsL ps by rw [nms, if_neg hnm])
    obtain ⟨q0, q1, q2⟩ := ne_list (x := sn) (y := ⟨#[]⟩) (by rw [hsn]; exact hnm)
    have q3 : sn.toList.isEmpty = false := by rw [List.isEmpty_eq_false_iff, Lib.toList_data, hsn]; exact hnm
    clear hsn hnm
    obtain ⟨w2, hw2⟩ : ∃ v, v = w1.alloc (.cells #[.string sn] 9) := ⟨_, rfl⟩
    have HB2 := Lib.hid (show Below w1.heap.size w1 w2 by rw [hw2]; exact (Below.refl _ _).alloc (Nat.le_refl _) _)
    have HW2 := Lib.hid hw2
    have HSZ1 := Lib.hid (show w1.heap.size = w.heap.size + 1 by rw [HW.out]; simp)
    have HNEW := Lib.hid (show ∀ j u, [Value.string sn][j]? = some u → w2.cell? ((⟨w.heap.size + 1, 0, none⟩ : Addr).add j) = some u by rw [hw2, ← HSZ1.out]; exact cell_one_new _ _ _)
    clear hw2
    obtain ⟨p0, p1, p2, p3, p4⟩ := X1.out.later HB2.out
    go_enter Tryz.func22, Tryz.ntmps22
    go_wp2_with (first
      | (at_builtin; rw [← HW.out, ← HW2.out]; refine wpList_append_own_at _ rfl _ _ 22 rfl w1.heap.size 9 i0 (.string ⟨#[]⟩) 1 16 Tryz.underlying22 hi hz0 hz1 hz2 rfl (by decide) _ _ _ rfl (World.ownsRow_nil w2 w1.heap.size 9 1) ⟨w.heap.size + 1, 0, none⟩ 1 1 [.string sn] rfl rfl HNEW.out (by intro u hu; simp at hu; rw [hu]; rfl) (by unfold maxLen; omega) (by omega) HB2.out.size ?_; intro v' w3 hrow3 hg3 hn3 hat3; obtain ⟨r0, r1, r2, r3, r4⟩ := X1.out.later (HB2.out.trans (gr_own HB2.out.size hg3)); clear hn3 hat3)
      | go_in)
    go_loopw [3, 4] (fun va vi wr => RnR [nm] ps w1 va vi wr) (fun _ vi _ => l - (intOf vi).toNat)
    case atStart => exact ⟨0, Nat.zero_le _, rfl, by simpa [nmsL, HEN.out] using hrow3, Lib.hid (by simp), HB2.out.trans (gr_own HB2.out.size hg3)⟩
    case round =>
      obtain ⟨j, hk, rfl, hrow, hnil, hBB⟩ := hrel
      have HK := Lib.hid hk
      have HBB := Lib.hid hBB
      have HBW := Lib.hid (HB.out.trans (hBB.mono HB.out.size))
      have X3 := Lib.hid (X1.out.later hBB)
      have HRO := Lib.hid hrow
      have HNI := Lib.hid hnil.out
      obtain ⟨p0, p1, p2, p3, p4⟩ := X3.out
      clear hk hBB hrow hnil
      by_cases hlt : j < l
      · have hlz : (j : Int) < (l : Int) := by omega
        have hku : j < ps.length := by rw [← HL.out]; exact hlt
        obtain ⟨g, o', a1, c1, b1, d1, hg, hgl, h5, hf⟩ := (HP.out.later HBW.out).get j hku
        obtain ⟨U, hU⟩ : ∃ V, V = ps[j] := ⟨_, rfl⟩
        rw [← hU] at h5 hf
        have HUK := Lib.hid (show ps[j]? = some U by rw [hU]; exact List.getElem?_eq_getElem hku)
        have CI := Lib.hid (fun W h1 h2 => IH.out U (List.mem_of_getElem? HUK.out) a1 c1 b1 d1 W h1 h2)
        have HFU4 := Lib.hid (hf.wide HBW.out.size)
        have hgw : g < wr.heap.size := Nat.lt_of_lt_of_le hgl HBW.out.size
        subst hg
        obtain ⟨e0, e1, e2, e3, e4⟩ := h5
        rw [Nat.zero_add] at e0 e1 e2 e3 e4
        obtain ⟨un, hun, _⟩ := bs_bytes U.name
        obtain ⟨uo, huo, _⟩ := bs_bytes U.op
        rw [hun] at e1 CI
        rw [huo] at e2 CI
        obtain ⟨uk, huk⟩ : ∃ x, x = U.kind := ⟨_, rfl⟩
        obtain ⟨uv, huv⟩ : ∃ x, x = U.vals.length := ⟨_, rfl⟩
        obtain ⟨up, hup⟩ : ∃ x, x = U.parts.length := ⟨_, rfl⟩
        rw [← huk] at e0 CI
        rw [← huv] at e3 CI
        rw [← hup] at e4 CI
        have HU5 := Lib.hid (show (nms U).length ≤ 2000000 by have := nmsL_one (List.mem_of_getElem? HUK.out); have := HSZ.out; omega)
        have HLE := Lib.hid (show ([nm] ++ nmsL (ps.take j)).length ≤ 3000000 by have h1 := nmsL_take_le ps j; have h2 := HSZ.out; rw [List.length_append]; simp only [List.length_cons, List.length_nil]; omega)
        have HEQ := Lib.hid (show [nm] ++ nmsL (ps.take (j + 1)) = ([nm] ++ nmsL (ps.take j)) ++ nms U by rw [nmsL_step HUK.out, List.append_assoc])
        clear hU hf hgl hun huo huk huv hup
        by_cases hne : nms U = []
        · have HNE := Lib.hid hne
          clear hne
          go_wp2_with fail
          refine Calls.mono (CI.out _ HFU4.out HU5.out) ?_
          rintro e w5 ⟨⟨v2, rfl, hrow2, hnil2⟩, hb⟩
          have HB5 := Lib.hid (HBB.out.trans (hb.mono HBB.out.size))
          have hrow5 := rowKeep HRO.out (V := w5) (fun g hg => hb.block g (rowLt HRO.out hg).2)
          have HSB := Lib.hid (show w1.heap.size ≤ w5.heap.size from HB5.out.size)
          have HRO5 := Lib.hid hrow5
          clear hb
          obtain rfl := hnil2 HNE.out
          clear hnil2 hrow2
          go_wp2_with (first
            | (at_builtin; refine wpList_append_own_none rfl _ _ 22 rfl w1.heap.size 9 i0 1 Tryz.underlying22 hi _ _ _ rfl hrow5 rfl ?_)
            | go_in)
          go_roundw
          case rel =>
            refine ⟨j + 1, by have := HL.out; omega, by go_num, ?_, Lib.hid ?_, HB5.out⟩
            · rw [HEQ.out, HNE.out, List.append_nil]; exact HRO5.out
            · rw [HEQ.out, HNE.out, List.append_nil]; exact HNI.out
          case measure => simp [intOf]; omega
        · have HNE := Lib.hid hne
          clear hne
          go_wp2_with fail
          refine Calls.mono (CI.out _ HFU4.out HU5.out) ?_
          rintro e w5 ⟨⟨v2, rfl, hrow2, hnil2⟩, hb⟩
          have HB5 := Lib.hid (HBB.out.trans (hb.mono HBB.out.size))
          have hrow5 := rowKeep HRO.out (V := w5) (fun g hg => hb.block g (rowLt HRO.out hg).2)
          have HSB := Lib.hid (show w1.heap.size ≤ w5.heap.size from HB5.out.size)
          have HRO5 := Lib.hid hrow5
          clear hb
          clear hnil2
          have hm0 : 0 < (nms U).length := List.length_pos_iff.2 HNE.out
          obtain ⟨g2, c2, rfl, hc2⟩ : ∃ g2 c2, v2 = .slice (some ⟨g2, 0, none⟩) (nms U).length c2 ∧ ∀ j u, ((nms U).map bs)[j]? = some u → w5.cell? ((⟨g2, 0, none⟩ : Addr).add j) = some u := by
            rcases hrow2.2 with ⟨_, h⟩ | ⟨g2, c2, cur, rfl, _⟩
            · omega
            · exact ⟨g2, c2, rfl, hrow2.cells rfl⟩
          have HC2 := Lib.hid hc2
          clear hrow2 hc2
          go_wp2_with (first
            | (at_builtin; refine wpList_append_own _ rfl _ _ 22 rfl w1.heap.size 9 i0 (.string ⟨#[]⟩) 1 16 Tryz.underlying22 hi hz0 hz1 hz2 rfl (by decide) _ _ _ rfl hrow5 ⟨g2, 0, none⟩ (nms U).length c2 ((nms U).map bs) rfl (by simp) HC2.out (bs_one _) (by have := HLE.out; have := HU5.out; unfold maxLen; omega) (by have := HLE.out; have := HU5.out; omega) HSB.out ?_; intro v' w6 hrow6 hg6 hn6)
            | go_in)
          have HB6 := Lib.hid (own_below HB5.out HRO5.out hg6)
          have HRO6 := Lib.hid hrow6
          clear hn6 hrow6 hg6
          go_roundw
          case rel =>
            refine ⟨j + 1, by have := HL.out; omega, by go_num, ?_, Lib.hid ?_, HB6.out⟩
            · rw [HEQ.out, List.map_append, List.length_append]; exact HRO6.out
            · intro h; rw [HEQ.out] at h; exact absurd (List.append_eq_nil_iff.1 h).2 HNE.out
          case measure => simp [intOf]; omega
      · have hlz : ¬ (j : Int) < (l : Int) := by omega
        have HE : [nm] ++ nmsL (ps.take j) = nms (.mk k nm o vs ps) := by rw [show j = ps.length by have := HL.out; have := HK.out; omega, List.take_length, ← HPQ.out]
        have HF := Lib.hid (show _ ∧ _ from ⟨HRO.out, HNI.out⟩)
        rw [HE] at HF
        clear HE HRO HNI
        have HRW := Lib.hid (row_wide HF.out.1 HB.out.size)
        go_wp2_with fail
        go_ret
        exact ⟨⟨_, rfl, HRW.out, HF.out.2⟩, HBW.out⟩
theorem rn_all : ∀ (N : Nat) (f : Flt), sz f ≤ N → RnOk f
  | 0, f, h => by have := sz_pos f; omega
  | N + 1, f, h => rn_ok f fun q hq => rn_all N q (by
      cases f
      simp only [Flt.parts] at hq
      have := sz_mem hq
      rw [sz] at h
      omega)
end Go.Proofs.YtmfkpoojfpepaaaGreatDoor.Ck
