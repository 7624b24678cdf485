/-
  Contract of the document's answer Check: what is told of a filter by a schema. Memory that was there is left as it was.
-/
import Derived.Test.YtmfkpoojfpepaaaGreatDoorMp10
import Derived.Test.YtmfkpoojfpepaaaGreatDoorMp09
import Derived.Test.YtmfkpoojfpepaaaGreatDoorMp15
import Derived.Test.YtmfkpoojfpepaaaGreatDoorMt01
/-
  Contract of the document's answer typed: is a filter well typed, by a schema that may be? Memory that was there is left as it was.
-/
namespace Go.Proofs.YtmfkpoojfpepaaaGreatDoor.Ck
open Go.RowKit Go.Proofs.YtmfkpoojfpepaaaGreatDoor.Fl Go.Proofs.YtmfkpoojfpepaaaGreatDoor.Tk
set_option linter.unusedVariables false
set_option linter.unusedSimpArgs false

def RtyOk (ns : List Nm) (ts : List Bool) (a0 : Option Addr) (c0 : Nat) (b0 : Option Addr) (d0 : Nat) (f : Flt) : Prop := ∀ (a : Option Addr) (c : Nat) (b : Option Addr) (d : Nat) (w : World), FltAt w (Old w.heap.size) f a b → SchAt w ns ts a0 b0 →
  Calls Tryz.prog 30 #[.slice a0 ns.length c0, .slice b0 ts.length d0, .agg #[.int .i64 f.kind, bs f.name, bs f.op, .slice a f.vals.length c, .slice b f.parts.length d]] w fun e w' => e = .returned (.bool (typB ns ts f)) ∧ Below w.heap.size w w'
theorem SchAt.nms {W : World} {l : List Nm} {t : List Bool} {a b : Option Addr} (h : SchAt W l t a b) : NmsAt W (Old W.heap.size) a l := h.2.1
theorem SchAt.bls {W : World} {l : List Nm} {t : List Bool} {a b : Option Addr} (h : SchAt W l t a b) : BlsAt W (Old W.heap.size) b t := h.2.2
set_option maxHeartbeats 8000000 in
set_option maxRecDepth 100000 in
theorem rty_ok (ns : List Nm) (ts : List Bool) (a0 : Option Addr) (c0 : Nat) (b0 : Option Addr) (d0 : Nat) (hlen0 : ns.length = ts.length) (f : Flt) (ih : ∀ q ∈ f.parts, RtyOk ns ts a0 c0 b0 d0 q) : RtyOk ns ts a0 c0 b0 d0 f := by
  obtain ⟨k, nm, o, vs, ps⟩ := f
  intro a c b d w hF hS
  simp only [Flt.kind, Flt.name, Flt.op, Flt.vals, Flt.parts] at ih ⊢
  obtain ⟨sn, en, hsn⟩ := bs_bytes nm
  obtain ⟨so, eo, hso⟩ := bs_bytes o
  rw [en, eo]
  have IH := Lib.hid ih
  have HA := Lib.hid hF.atts
  have HP := Lib.hid hF.parts
  simp only [Flt.vals] at HA
  simp only [Flt.parts] at HP
  have HSN := Lib.hid hsn
  have HS := Lib.hid hS
  have hlen : ps.length ≤ 9223372036854775807 := by have := hF.small.2.2.2.2; simp only [Flt.parts] at this; unfold maxLen at this; omega
  have hvl : vs.length ≤ 9223372036854775807 := by have := hF.atts.1; simp only [Flt.vals] at this; unfold maxLen at this; omega
  obtain ⟨n, hn⟩ : ∃ n, n = vs.length := ⟨_, rfl⟩
  obtain ⟨l, hl⟩ : ∃ n, n = ps.length := ⟨_, rfl⟩
  obtain ⟨nn, hnn⟩ : ∃ n, n = ns.length := ⟨_, rfl⟩
  obtain ⟨nt, hnt⟩ : ∃ n, n = ts.length := ⟨_, rfl⟩
  have HN := Lib.hid hn
  have HL := Lib.hid hl
  have HNN := Lib.hid hnn
  have HNT := Lib.hid hnt
  rw [← hn] at hvl
  rw [← hl] at hlen
  obtain ⟨res, hres⟩ : ∃ x, x = typB ns ts (.mk k nm o vs ps) := ⟨_, rfl⟩
  have HR := Lib.hid hres
  obtain ⟨r, hr⟩ : ∃ x, x = isT ns ts nm := ⟨_, rfl⟩
  have HRR := Lib.hid hr
  have CT := Lib.hid (fun W h => find_any ns ts sn a0 c0 b0 d0 W hlen0 (SchAt.nms h) (SchAt.bls h))
  rw [hsn] at CT
  rw [← hres, ← hn, ← hl, ← hnn, ← hnt]
  rw [← hnn, ← hnt] at CT
  clear ih hF en eo hsn hso hres hn hl hnn hnt hS hr
  obtain ⟨x, hx⟩ : ∃ x, x = fnd ns ts nm := ⟨_, rfl⟩
  have hx1 : (x == 1) = r := by
    rw [HRR.out, hx]
    unfold isT
    rcases fnd_range ns ts nm with h | h | h <;> rw [h] <;> rfl
  rw [← hx] at CT
  clear hx
  obtain ⟨w1, hw1⟩ : ∃ v, v = w.alloc (.cells #[.int .i64 k, .string sn, .string so, .slice a n c, .slice b l d] 27) := ⟨_, rfl⟩
  have Y1 := Lib.hid (show Box w1 w.heap.size (.int .i64 k) (.string sn) (.string so) (.slice a n c) (.slice b l d) by rw [hw1]; exact Box.new ..)
  have HB := Lib.hid (show Below w.heap.size w w1 by rw [hw1]; exact (Below.refl _ _).alloc (Nat.le_refl _) _)
  have HW := Lib.hid hw1
  clear hw1
  go_enter Tryz.func30, Tryz.ntmps30
  go_wp2_with fail
  rw [← HW.out]
  go_loopw [7] (fun vi wr => TyV r vs w1 vi wr) (fun vi _ => n - (intOf vi).toNat)
  case atStart => exact ⟨0, Nat.zero_le _, rfl, Lib.hid (by simp), Below.refl _ _⟩
  case round =>
    obtain ⟨j, hk, rfl, hall, hBB⟩ := hrel
    have HK := Lib.hid hk
    have HBB := Lib.hid hBB
    have HBW := Lib.hid (HB.out.trans (hBB.mono HB.out.size))
    have HALL := Lib.hid hall.out
    have Y3 := Lib.hid (Y1.out.later hBB)
    obtain ⟨p0, p1, p2, p3, p4⟩ := Y3.out
    clear hk hBB hall
    by_cases hlt : j < n
    · have hlz : (j : Int) < (n : Int) := by omega
      have hku : j < vs.length := by rw [← HN.out]; exact hlt
      obtain ⟨g, o', hg, hgl, hc⟩ := (HA.out.later HBW.out).2.2 (by omega)
      obtain ⟨e0, e1, e2, e3⟩ := hc j hku
      obtain ⟨U, hU⟩ : ∃ V, V = vs[j] := ⟨_, rfl⟩
      rw [← hU] at e0 e1 e2 e3
      have HUK := Lib.hid (show vs[j]? = some U by rw [hU]; exact List.getElem?_eq_getElem hku)
      obtain ⟨s1, q1, f1⟩ := bs_bytes U.name
      obtain ⟨t1, q2, f2⟩ := bs_bytes U.str
      obtain ⟨tx, htx⟩ : ∃ x, x = U.text := ⟨_, rfl⟩
      obtain ⟨nu, hnu⟩ : ∃ x, x = U.num := ⟨_, rfl⟩
      have HTX := Lib.hid htx
      rw [q1] at e0
      rw [← htx] at e1
      rw [← hnu] at e2
      rw [q2] at e3
      subst hg
      clear hc hU q1 q2 f1 f2 hgl htx hnu
      have HQ := Lib.hid (show ∀ W, Below wr.heap.size wr W → (fun W => W.cell? ⟨w.heap.size, 1, none⟩ = some (.string sn) ∧ W.cell? ⟨w.heap.size, 3, none⟩ = some (.slice (some ⟨g, o', none⟩) n c) ∧ W.cell? ⟨g, o' + j * 4 + 1, none⟩ = some (.bool tx) ∧ Below wr.heap.size wr W) W from fun W hW => by
        obtain ⟨y0, y1, y2, y3, y4⟩ := Y3.out.later hW
        exact ⟨y1, y3, cell_later hW e1, hW⟩)
      by_cases htr : tx = r
      · have HTR := Lib.hid (show U.text = r by rw [← HTX.out]; exact htr)
        have hq : (tx == r) = true := by simpa using htr
        go_wp2_with fail
        refine wp_region_held_drew (S := (fun W => W.cell? ⟨w.heap.size, 1, none⟩ = some (.string sn) ∧ W.cell? ⟨w.heap.size, 3, none⟩ = some (.slice (some ⟨g, o', none⟩) n c) ∧ W.cell? ⟨g, o' + j * 4 + 1, none⟩ = some (.bool tx) ∧ Below wr.heap.size wr W)) (by kernel_rfl) (HQ.out _ (Below.refl _ _).drew) (fun hHeld => ?_)
        refine wpAnyH_take (i := 0) (v := ?vA0) rfl (by kernel_rfl) (by kernel_rfl) (by kernel_rfl) (fun _ _ _ h => h) (Or.inl ⟨by rfl, ?yA0⟩) hHeld ?rA0
        case yA0 => (intro W hSw; simp only [List.getElem_toArray, List.getElem_cons_zero]; go_simp; try (with_reducible rfl))
        simp only [List.getElem_toArray, List.getElem_cons_zero, Act.put, List.setIfInBounds_toArray, List.set_cons_zero, List.set_cons_succ]
        refine wpAnyH_take (i := 1) (v := ?vA1) rfl (by kernel_rfl) (by kernel_rfl) (by kernel_rfl) (fun _ _ _ h => h) (Or.inl ⟨by rfl, ?yA1⟩) hHeld ?rA1
        case yA1 => (intro W hSw; simp only [List.getElem_toArray, List.getElem_cons_succ, List.getElem_cons_zero]; go_simp; try (with_reducible rfl))
        simp only [List.getElem_toArray, List.getElem_cons_succ, List.getElem_cons_zero, Act.put, List.setIfInBounds_toArray, List.set_cons_zero, List.set_cons_succ]
        refine wpAnyH_take (i := 2) (v := ?vA2) rfl (by kernel_rfl) (by kernel_rfl) (by kernel_rfl) (fun _ _ _ h => h) (Or.inl ⟨by rfl, ?yA2⟩) hHeld ?rA2
        case yA2 => (intro W hSw; simp only [List.getElem_toArray, List.getElem_cons_succ, List.getElem_cons_zero]; go_simp; try (with_reducible rfl))
        simp only [List.getElem_toArray, List.getElem_cons_succ, List.getElem_cons_zero, Act.put, List.setIfInBounds_toArray, List.set_cons_zero, List.set_cons_succ]
        refine wpAnyH_take (i := 3) (v := ?vA3) rfl (by kernel_rfl) (by kernel_rfl) (by kernel_rfl) (fun _ _ _ h => h) (Or.inl ⟨by rfl, ?yA3⟩) hHeld ?rA3
        case yA3 => (intro W hSw; simp only [List.getElem_toArray, List.getElem_cons_succ, List.getElem_cons_zero]; go_simp; try (with_reducible rfl))
        simp only [List.getElem_toArray, List.getElem_cons_succ, List.getElem_cons_zero, Act.put, List.setIfInBounds_toArray, List.set_cons_zero, List.set_cons_succ]
        refine wpAnyH_take (i := 4) (v := ?vA4) rfl (by kernel_rfl) (by kernel_rfl) (by kernel_rfl) (fun _ _ _ h => h) (Or.inl ⟨by rfl, ?yA4⟩) hHeld ?rA4
        case yA4 => (intro W hSw; simp only [List.getElem_toArray, List.getElem_cons_succ, List.getElem_cons_zero]; go_simp; try (with_reducible rfl))
        simp only [List.getElem_toArray, List.getElem_cons_succ, List.getElem_cons_zero, Act.put, List.setIfInBounds_toArray, List.set_cons_zero, List.set_cons_succ]
        refine wpAnyH_take (i := 5) (v := ?vA5) rfl (by kernel_rfl) (by kernel_rfl) (by kernel_rfl) (fun _ _ _ h => h) (Or.inl ⟨by rfl, ?yA5⟩) hHeld ?rA5
        case yA5 => (intro W hSw; simp only [List.getElem_toArray, List.getElem_cons_succ, List.getElem_cons_zero]; go_simp; try (with_reducible rfl))
        simp only [List.getElem_toArray, List.getElem_cons_succ, List.getElem_cons_zero, Act.put, List.setIfInBounds_toArray, List.set_cons_zero, List.set_cons_succ]
        refine wpAnyH_take (i := 6) (v := ?vA6) rfl (by kernel_rfl) (by kernel_rfl) (by kernel_rfl) (fun _ _ _ h => h) (Or.inl ⟨by rfl, ?yA6⟩) hHeld ?rA6
        case yA6 => (intro W hSw; simp only [List.getElem_toArray, List.getElem_cons_succ, List.getElem_cons_zero]; go_simp; try (with_reducible rfl))
        simp only [List.getElem_toArray, List.getElem_cons_succ, List.getElem_cons_zero, Act.put, List.setIfInBounds_toArray, List.set_cons_zero, List.set_cons_succ]
        refine wpAnyH_take (i := 7) (v := ?vA7) rfl (by kernel_rfl) (by kernel_rfl) (by kernel_rfl) (fun _ _ _ h => h) (Or.inl ⟨by rfl, ?yA7⟩) hHeld ?rA7
        case yA7 => (intro W hSw; simp only [List.getElem_toArray, List.getElem_cons_succ, List.getElem_cons_zero]; go_simp; try (with_reducible rfl))
        simp only [List.getElem_toArray, List.getElem_cons_succ, List.getElem_cons_zero, Act.put, List.setIfInBounds_toArray, List.set_cons_zero, List.set_cons_succ]
        refine wpAnyH_take (i := 8) (v := ?vA8) rfl (by kernel_rfl) (by kernel_rfl) (by kernel_rfl) (fun _ _ _ h => h) (Or.inl ⟨by rfl, ?yA8⟩) hHeld ?rA8
        case yA8 => (intro W hSw; simp only [List.getElem_toArray, List.getElem_cons_succ, List.getElem_cons_zero]; go_simp; try (with_reducible rfl))
        simp only [List.getElem_toArray, List.getElem_cons_succ, List.getElem_cons_zero, Act.put, List.setIfInBounds_toArray, List.set_cons_zero, List.set_cons_succ]
        refine wpAnyH_take (i := 9) (v := ?vA9) rfl (by kernel_rfl) (by kernel_rfl) (by kernel_rfl) (fun _ _ _ h => h) (Or.inl ⟨by rfl, ?yA9⟩) hHeld ?rA9
        case yA9 => (intro W hSw; simp only [List.getElem_toArray, List.getElem_cons_succ, List.getElem_cons_zero]; go_simp; try (with_reducible rfl))
        simp only [List.getElem_toArray, List.getElem_cons_succ, List.getElem_cons_zero, Act.put, List.setIfInBounds_toArray, List.set_cons_zero, List.set_cons_succ]
        refine wpAnyH_ready (rs := [10]) (by kernel_rfl) (by simp) (AllReadyH.cons rfl (fun K hK => ?_) AllReadyH.nil)
        simp only [List.getElem_toArray, List.getElem_cons_succ, List.getElem_cons_zero]
        go_simp
        go_at_call 29; refine (CT.out _ ((HS.out.fit HBW.out).fit hHeld.2.2.2)).mono ?_; rintro e wq ⟨rfl, hb0⟩
        try go_wp2_with fail
        refine hK.out _ _ (HQ.out _ (hb0 ▸ hHeld.2.2.2)) (fun hHeld1 => ?_)
        clear hK K hHeld
        have hHeld := hHeld1; clear hHeld1
        try simp only [List.getElem_toArray, List.getElem_cons_succ, List.getElem_cons_zero, Act.put, List.setIfInBounds_toArray, List.set_cons_zero, List.set_cons_succ]
        refine wpAnyH_take (i := 11) (v := ?vA11) rfl (by kernel_rfl) (by kernel_rfl) (by kernel_rfl) (fun _ _ _ h => h) (Or.inl ⟨by rfl, ?yA11⟩) hHeld ?rA11
        case yA11 => (intro W hSw; simp only [List.getElem_toArray, List.getElem_cons_succ, List.getElem_cons_zero]; go_simp; try (with_reducible rfl))
        simp only [List.getElem_toArray, List.getElem_cons_succ, List.getElem_cons_zero, Act.put, List.setIfInBounds_toArray, List.set_cons_zero, List.set_cons_succ]
        refine wpAnyH_take (i := 12) (v := ?vA12) rfl (by kernel_rfl) (by kernel_rfl) (by kernel_rfl) (fun _ _ _ h => h) (Or.inl ⟨by rfl, ?yA12⟩) hHeld ?rA12
        case yA12 => (intro W hSw; simp only [List.getElem_toArray, List.getElem_cons_succ, List.getElem_cons_zero]; go_simp; try (with_reducible rfl))
        simp only [List.getElem_toArray, List.getElem_cons_succ, List.getElem_cons_zero, Act.put, List.setIfInBounds_toArray, List.set_cons_zero, List.set_cons_succ]
        refine wpAnyH_done (by kernel_rfl) ?_ _
        have B7 := Lib.hid (HBB.out.trans (hHeld.2.2.2.mono HBB.out.size))
        clear hHeld
        go_wp2_with fail
        go_roundw
        case rel => exact ⟨j + 1, by have := HN.out; omega, by go_num, Lib.hid (take_all HALL.out HUK.out HTR.out), B7.out⟩
        case measure => simp [intOf]; omega
      · have HF := Lib.hid (show res = false by rw [HR.out]; exact typ_val (List.mem_of_getElem? HUK.out) (by rw [← HTX.out, ← HRR.out]; exact htr))
        have hq : (tx == r) = false := by simpa using htr
        go_wp2_with fail
        refine wp_region_held_drew (S := (fun W => W.cell? ⟨w.heap.size, 1, none⟩ = some (.string sn) ∧ W.cell? ⟨w.heap.size, 3, none⟩ = some (.slice (some ⟨g, o', none⟩) n c) ∧ W.cell? ⟨g, o' + j * 4 + 1, none⟩ = some (.bool tx) ∧ Below wr.heap.size wr W)) (by kernel_rfl) (HQ.out _ (Below.refl _ _).drew) (fun hHeld => ?_)
        refine wpAnyH_take (i := 0) (v := ?vB0) rfl (by kernel_rfl) (by kernel_rfl) (by kernel_rfl) (fun _ _ _ h => h) (Or.inl ⟨by rfl, ?yB0⟩) hHeld ?rB0
        case yB0 => (intro W hSw; simp only [List.getElem_toArray, List.getElem_cons_zero]; go_simp; try (with_reducible rfl))
        simp only [List.getElem_toArray, List.getElem_cons_zero, Act.put, List.setIfInBounds_toArray, List.set_cons_zero, List.set_cons_succ]
        refine wpAnyH_take (i := 1) (v := ?vB1) rfl (by kernel_rfl) (by kernel_rfl) (by kernel_rfl) (fun _ _ _ h => h) (Or.inl ⟨by rfl, ?yB1⟩) hHeld ?rB1
        case yB1 => (intro W hSw; simp only [List.getElem_toArray, List.getElem_cons_succ, List.getElem_cons_zero]; go_simp; try (with_reducible rfl))
        simp only [List.getElem_toArray, List.getElem_cons_succ, List.getElem_cons_zero, Act.put, List.setIfInBounds_toArray, List.set_cons_zero, List.set_cons_succ]
        refine wpAnyH_take (i := 2) (v := ?vB2) rfl (by kernel_rfl) (by kernel_rfl) (by kernel_rfl) (fun _ _ _ h => h) (Or.inl ⟨by rfl, ?yB2⟩) hHeld ?rB2
        case yB2 => (intro W hSw; simp only [List.getElem_toArray, List.getElem_cons_succ, List.getElem_cons_zero]; go_simp; try (with_reducible rfl))
        simp only [List.getElem_toArray, List.getElem_cons_succ, List.getElem_cons_zero, Act.put, List.setIfInBounds_toArray, List.set_cons_zero, List.set_cons_succ]
        refine wpAnyH_take (i := 3) (v := ?vB3) rfl (by kernel_rfl) (by kernel_rfl) (by kernel_rfl) (fun _ _ _ h => h) (Or.inl ⟨by rfl, ?yB3⟩) hHeld ?rB3
        case yB3 => (intro W hSw; simp only [List.getElem_toArray, List.getElem_cons_succ, List.getElem_cons_zero]; go_simp; try (with_reducible rfl))
        simp only [List.getElem_toArray, List.getElem_cons_succ, List.getElem_cons_zero, Act.put, List.setIfInBounds_toArray, List.set_cons_zero, List.set_cons_succ]
        refine wpAnyH_take (i := 4) (v := ?vB4) rfl (by kernel_rfl) (by kernel_rfl) (by kernel_rfl) (fun _ _ _ h => h) (Or.inl ⟨by rfl, ?yB4⟩) hHeld ?rB4
        case yB4 => (intro W hSw; simp only [List.getElem_toArray, List.getElem_cons_succ, List.getElem_cons_zero]; go_simp; try (with_reducible rfl))
        simp only [List.getElem_toArray, List.getElem_cons_succ, List.getElem_cons_zero, Act.put, List.setIfInBounds_toArray, List.set_cons_zero, List.set_cons_succ]
        refine wpAnyH_take (i := 5) (v := ?vB5) rfl (by kernel_rfl) (by kernel_rfl) (by kernel_rfl) (fun _ _ _ h => h) (Or.inl ⟨by rfl, ?yB5⟩) hHeld ?rB5
        case yB5 => (intro W hSw; simp only [List.getElem_toArray, List.getElem_cons_succ, List.getElem_cons_zero]; go_simp; try (with_reducible rfl))
        simp only [List.getElem_toArray, List.getElem_cons_succ, List.getElem_cons_zero, Act.put, List.setIfInBounds_toArray, List.set_cons_zero, List.set_cons_succ]
        refine wpAnyH_take (i := 6) (v := ?vB6) rfl (by kernel_rfl) (by kernel_rfl) (by kernel_rfl) (fun _ _ _ h => h) (Or.inl ⟨by rfl, ?yB6⟩) hHeld ?rB6
        case yB6 => (intro W hSw; simp only [List.getElem_toArray, List.getElem_cons_succ, List.getElem_cons_zero]; go_simp; try (with_reducible rfl))
        simp only [List.getElem_toArray, List.getElem_cons_succ, List.getElem_cons_zero, Act.put, List.setIfInBounds_toArray, List.set_cons_zero, List.set_cons_succ]
        refine wpAnyH_take (i := 7) (v := ?vB7) rfl (by kernel_rfl) (by kernel_rfl) (by kernel_rfl) (fun _ _ _ h => h) (Or.inl ⟨by rfl, ?yB7⟩) hHeld ?rB7
        case yB7 => (intro W hSw; simp only [List.getElem_toArray, List.getElem_cons_succ, List.getElem_cons_zero]; go_simp; try (with_reducible rfl))
        simp only [List.getElem_toArray, List.getElem_cons_succ, List.getElem_cons_zero, Act.put, List.setIfInBounds_toArray, List.set_cons_zero, List.set_cons_succ]
        refine wpAnyH_take (i := 8) (v := ?vB8) rfl (by kernel_rfl) (by kernel_rfl) (by kernel_rfl) (fun _ _ _ h => h) (Or.inl ⟨by rfl, ?yB8⟩) hHeld ?rB8
        case yB8 => (intro W hSw; simp only [List.getElem_toArray, List.getElem_cons_succ, List.getElem_cons_zero]; go_simp; try (with_reducible rfl))
        simp only [List.getElem_toArray, List.getElem_cons_succ, List.getElem_cons_zero, Act.put, List.setIfInBounds_toArray, List.set_cons_zero, List.set_cons_succ]
        refine wpAnyH_take (i := 9) (v := ?vB9) rfl (by kernel_rfl) (by kernel_rfl) (by kernel_rfl) (fun _ _ _ h => h) (Or.inl ⟨by rfl, ?yB9⟩) hHeld ?rB9
        case yB9 => (intro W hSw; simp only [List.getElem_toArray, List.getElem_cons_succ, List.getElem_cons_zero]; go_simp; try (with_reducible rfl))
        simp only [List.getElem_toArray, List.getElem_cons_succ, List.getElem_cons_zero, Act.put, List.setIfInBounds_toArray, List.set_cons_zero, List.set_cons_succ]
        refine wpAnyH_ready (rs := [10]) (by kernel_rfl) (by simp) (AllReadyH.cons rfl (fun K hK => ?_) AllReadyH.nil)
        simp only [List.getElem_toArray, List.getElem_cons_succ, List.getElem_cons_zero]
        go_simp
        go_at_call 29; refine (CT.out _ ((HS.out.fit HBW.out).fit hHeld.2.2.2)).mono ?_; rintro e wq ⟨rfl, hb0⟩
        try go_wp2_with fail
        refine hK.out _ _ (HQ.out _ (hb0 ▸ hHeld.2.2.2)) (fun hHeld1 => ?_)
        clear hK K hHeld
        have hHeld := hHeld1; clear hHeld1
        try simp only [List.getElem_toArray, List.getElem_cons_succ, List.getElem_cons_zero, Act.put, List.setIfInBounds_toArray, List.set_cons_zero, List.set_cons_succ]
        refine wpAnyH_take (i := 11) (v := ?vB11) rfl (by kernel_rfl) (by kernel_rfl) (by kernel_rfl) (fun _ _ _ h => h) (Or.inl ⟨by rfl, ?yB11⟩) hHeld ?rB11
        case yB11 => (intro W hSw; simp only [List.getElem_toArray, List.getElem_cons_succ, List.getElem_cons_zero]; go_simp; try (with_reducible rfl))
        simp only [List.getElem_toArray, List.getElem_cons_succ, List.getElem_cons_zero, Act.put, List.setIfInBounds_toArray, List.set_cons_zero, List.set_cons_succ]
        refine wpAnyH_take (i := 12) (v := ?vB12) rfl (by kernel_rfl) (by kernel_rfl) (by kernel_rfl) (fun _ _ _ h => h) (Or.inl ⟨by rfl, ?yB12⟩) hHeld ?rB12
        case yB12 => (intro W hSw; simp only [List.getElem_toArray, List.getElem_cons_succ, List.getElem_cons_zero]; go_simp; try (with_reducible rfl))
        simp only [List.getElem_toArray, List.getElem_cons_succ, List.getElem_cons_zero, Act.put, List.setIfInBounds_toArray, List.set_cons_zero, List.set_cons_succ]
        refine wpAnyH_done (by kernel_rfl) ?_ _
        have B7 := Lib.hid (HBB.out.trans (hHeld.2.2.2.mono HBB.out.size))
        clear hHeld
        go_wp2_with fail
        go_ret
        exact ⟨by rw [HF.out]; rfl, HB.out.trans (B7.out.mono HB.out.size)⟩
    · have hlz : ¬ (j : Int) < (n : Int) := by omega
      have HVA := Lib.hid (show ∀ v ∈ vs, v.text = isT ns ts nm by
        have h := HALL.out
        rw [show j = vs.length by have := HN.out; have := HK.out; omega, List.take_length] at h
        rw [← HRR.out]; exact h)
      obtain ⟨wb, hwb⟩ : ∃ v, v = wr := ⟨_, rfl⟩
      rw [← hwb] at HBB HBW p0 p1 p2 p3 p4 ⊢
      clear hwb HK
      go_wp2_with fail
      go_loopw [8] (fun vi wr => TyP ns ts ps w1 vi wr) (fun vi _ => l - (intOf vi).toNat)
      case atStart => exact ⟨0, Nat.zero_le _, rfl, Lib.hid (by simp), HBB.out⟩
      case round =>
        obtain ⟨j, hk, rfl, hall, hBB⟩ := hrel
        have HK := Lib.hid hk
        have HBC := Lib.hid hBB
        have HBW := Lib.hid (HB.out.trans (hBB.mono HB.out.size))
        have HALL := Lib.hid hall.out
        have Y3 := Lib.hid (Y1.out.later hBB)
        clear hk hBB hall hlt hlz p0 p1 p2 p3 p4
        obtain ⟨p0, p1, p2, p3, p4⟩ := Y3.out
        by_cases hlt : j < l
        · have hlz : (j : Int) < (l : Int) := by omega
          have hku : j < ps.length := by rw [← HL.out]; exact hlt
          obtain ⟨g, o', a1, c1, b1, d1, hg, hgl, h5, hf⟩ := (HP.out.later HBW.out).get j hku
          obtain ⟨U, hU⟩ : ∃ V, V = ps[j] := ⟨_, rfl⟩
          rw [← hU] at h5 hf
          have HUK := Lib.hid (show ps[j]? = some U by rw [hU]; exact List.getElem?_eq_getElem hku)
          have CI := Lib.hid (fun W h1 h2 => IH.out U (List.mem_of_getElem? HUK.out) a1 c1 b1 d1 W h1 h2)
          have HFU := Lib.hid hf
          have HGL := Lib.hid (show g < wr.heap.size from Nat.lt_of_lt_of_le hgl HBW.out.size)
          have hgw : g < wr.heap.size := HGL.out
          have hbw : w.heap.size < wr.heap.size := Y3.out.lt
          subst hg
          obtain ⟨e0, e1, e2, e3, e4⟩ := h5
          rw [Nat.zero_add] at e0 e1 e2 e3 e4
          obtain ⟨un, hun, _⟩ := bs_bytes U.name
          obtain ⟨uo, huo, _⟩ := bs_bytes U.op
          rw [hun] at e1 CI
          rw [huo] at e2 CI
          obtain ⟨uk, huk⟩ : ∃ x, x = U.kind := ⟨_, rfl⟩
          obtain ⟨uv, huv⟩ : ∃ x, x = U.vals.length := ⟨_, rfl⟩
          obtain ⟨up, hup⟩ : ∃ x, x = U.parts.length := ⟨_, rfl⟩
          rw [← huk] at e0 CI
          rw [← huv] at e3 CI
          rw [← hup, ← HNN.out, ← HNT.out] at CI
          rw [← hup] at e4
          clear hU hf hgl hun huo huk huv hup
          have HFU4 := Lib.hid (HFU.out.wide HBW.out.size)
          have HS4 := Lib.hid (HS.out.fit HBW.out)
          obtain ⟨xx, hx⟩ : ∃ x, x = typB ns ts U := ⟨_, rfl⟩
          have HX := Lib.hid hx
          rw [← hx] at CI
          clear hx
          cases xx with
          | true =>
            go_wp2_with fail
            refine Calls.mono (CI.out _ HFU4.out HS4.out) ?_
            rintro e w5 ⟨rfl, hb⟩
            have HB5 := Lib.hid (HBC.out.trans (hb.mono HBC.out.size))
            clear hb
            go_wp2_with fail
            go_roundw
            case rel => exact ⟨j + 1, by have := HL.out; omega, by go_num, Lib.hid (take_all HALL.out HUK.out HX.out.symm), HB5.out⟩
            case measure => simp [intOf]; omega
          | false =>
            have HF := Lib.hid (show res = false by rw [HR.out]; exact typ_sub (List.mem_of_getElem? HUK.out) HX.out.symm)
            go_wp2_with fail
            refine Calls.mono (CI.out _ HFU4.out HS4.out) ?_
            rintro e w5 ⟨rfl, hb⟩
            have HB5 := Lib.hid (HBC.out.trans (hb.mono HBC.out.size))
            clear hb
            go_wp2_with fail
            go_ret
            exact ⟨by rw [HF.out]; rfl, HB.out.trans (HB5.out.mono HB.out.size)⟩
        · have hlz : ¬ (j : Int) < (l : Int) := by omega
          have HF := Lib.hid (show res = true by
            rw [HR.out]
            refine typ_all HVA.out ?_
            have h := HALL.out
            rw [show j = ps.length by have := HL.out; have := HK.out; omega, List.take_length] at h
            exact h)
          go_wp2_with fail
          go_ret
          exact ⟨by rw [HF.out]; rfl, HBW.out⟩
theorem rty_every (ns : List Nm) (ts : List Bool) (a0 : Option Addr) (c0 : Nat) (b0 : Option Addr) (d0 : Nat) (hlen0 : ns.length = ts.length) : ∀ (N : Nat) (f : Flt), sz f ≤ N → RtyOk ns ts a0 c0 b0 d0 f
  | 0, f, h => by have := sz_pos f; omega
  | N + 1, f, h => rty_ok ns ts a0 c0 b0 d0 hlen0 f fun q hq => rty_every ns ts a0 c0 b0 d0 hlen0 N q (by
      cases f
      simp only [Flt.parts] at hq
      have := sz_mem hq
      rw [sz] at h
      omega)
end Go.Proofs.YtmfkpoojfpepaaaGreatDoor.Ck
namespace Go.Proofs.YtmfkpoojfpepaaaGreatDoor.Ck
open Go.RowKit Go.Proofs.YtmfkpoojfpepaaaGreatDoor.Fl Go.Proofs.YtmfkpoojfpepaaaGreatDoor.Tk
set_option linter.unusedVariables false
set_option linter.unusedSimpArgs false

def HsR (l : List Nm) (t : List Bool) (L : List Nm) (w : World) (vi : Value) (wr : World) : Prop :=
  ∃ j : Nat, j ≤ L.length ∧ vi = .int .i64 j ∧ Hid (∀ x ∈ L.take j, hasN l t x = true) ∧ Below w.heap.size w wr
def RcEnd (l : List Nm) (t : List Bool) (f : Flt) (w w' : World) (e : Ending) : Prop := e = .returned (.int .i64 (chkN l t f : Nat)) ∧ Below w.heap.size w w'
set_option maxHeartbeats 8000000 in
set_option maxRecDepth 100000 in
theorem refCheck_any (l : List Nm) (t : List Bool) (a0 : Option Addr) (c0 : Nat) (b0 : Option Addr) (d0 : Nat) (f : Flt) (a : Option Addr) (c : Nat) (b : Option Addr) (d : Nat) (w : World) (hS : SchAt w l t a0 b0) (hF : FltAt w (Old w.heap.size) f a b) (h5 : fine f = true → sz f ≤ 5000) :
    Calls Tryz.prog 13 #[.slice a0 l.length c0, .slice b0 t.length d0, .agg #[.int .i64 f.kind, bs f.name, bs f.op, .slice a f.vals.length c, .slice b f.parts.length d]] w fun e w' => RcEnd l t f w w' e := by
  have CS := Lib.hid (fun W h1 => refSchema_any l t a0 c0 b0 d0 W h1)
  have CM := Lib.hid (fun W h1 => refMay_any f a c b d W h1 h5)
  have CN := Lib.hid (fun W h1 h2 => rn_all (sz f) f (Nat.le_refl _) a c b d W h1 h2)
  have CF := Lib.hid (fun s W h1 h2 => find_any l t s a0 c0 b0 d0 W h1 (SchAt.nms h2) (SchAt.bls h2))
  have CT := Lib.hid (fun h1 W h3 h4 => rty_every l t a0 c0 b0 d0 h1 (sz f) f (Nat.le_refl _) a c b d W h3 h4)
  obtain ⟨sn, en, hsn⟩ := bs_bytes f.name
  obtain ⟨so, eo, hso⟩ := bs_bytes f.op
  rw [en, eo] at CM CN CT ⊢
  obtain ⟨k, hk⟩ : ∃ x, x = f.kind := ⟨_, rfl⟩
  obtain ⟨nv, hnv⟩ : ∃ x, x = f.vals.length := ⟨_, rfl⟩
  obtain ⟨np, hnp⟩ : ∃ x, x = f.parts.length := ⟨_, rfl⟩
  obtain ⟨nn, hnn⟩ : ∃ x, x = l.length := ⟨_, rfl⟩
  obtain ⟨nt, hnt⟩ : ∃ x, x = t.length := ⟨_, rfl⟩
  have HNN := Lib.hid hnn
  have HNT := Lib.hid hnt
  rw [← hk, ← hnv, ← hnp] at CM CN CT ⊢
  rw [← hnn, ← hnt] at CS CF CT ⊢
  have HS := Lib.hid hS
  have HF := Lib.hid hF
  unfold RcEnd
  obtain ⟨res, hres⟩ : ∃ x, x = chkN l t f := ⟨_, rfl⟩
  have HR := Lib.hid hres
  rw [← hres]
  clear hS hF hres hk hnv hnp hnn hnt en eo hsn hso h5
  obtain ⟨w1, hw1⟩ : ∃ v, v = w.alloc (.cells #[.int .i64 k, .string sn, .string so, .slice a nv c, .slice b np d] 27) := ⟨_, rfl⟩
  have Y1 := Lib.hid (show Box w1 w.heap.size (.int .i64 k) (.string sn) (.string so) (.slice a nv c) (.slice b np d) by rw [hw1]; exact Box.new ..)
  have HB := Lib.hid (show Below w.heap.size w w1 by rw [hw1]; exact (Below.refl _ _).alloc (Nat.le_refl _) _)
  have HW := Lib.hid hw1
  clear hw1
  go_enter Tryz.func13, Tryz.ntmps13
  go_wp2_with fail
  rw [← HW.out]
  refine Calls.mono (CS.out _ (HS.out.fit HB.out)) ?_
  rintro e w2 ⟨rfl, hb⟩
  have B2 := Lib.hid (HB.out.trans (hb.mono HB.out.size))
  have Y2 := Lib.hid (Y1.out.later hb)
  obtain ⟨p0, p1, p2, p3, p4⟩ := Y2.out
  clear hb
  go_wp2_with fail
  refine Calls.mono (CM.out _ (fit_flt HF.out B2.out)) ?_
  rintro e w3 ⟨rfl, hb⟩
  have B3 := Lib.hid (B2.out.trans (hb.mono B2.out.size))
  have Y3 := Lib.hid (Y2.out.later hb)
  clear hb p0 p1 p2 p3 p4
  obtain ⟨p0, p1, p2, p3, p4⟩ := Y3.out
  cases hsb : schB l t with
  | false =>
    have HF0 := Lib.hid (show res = 1 by rw [HR.out]; unfold chkN; rw [hsb]; simp)
    go_wp2_with fail
    go_ret
    exact ⟨by rw [HF0.out]; rfl, B3.out⟩
  | true =>
    have HSB := Lib.hid hsb
    have HNE := Lib.hid (show nn = nt by rw [HNN.out, HNT.out]; exact (sch_rising hsb).2)
    clear hsb
    cases hmb : mayB f 10 60 with
    | false =>
      have HF0 := Lib.hid (show res = 1 by rw [HR.out]; unfold chkN; rw [hmb]; simp)
      go_wp2_with fail
      go_ret
      exact ⟨by rw [HF0.out]; rfl, B3.out⟩
    | true =>
      have HR2 := Lib.hid (show res = if (nms f).all (hasN l t) = true then (if typB l t f = true then 0 else 4) else 9 by rw [HR.out]; unfold chkN; rw [if_pos ⟨HSB.out, hmb⟩])
      have HM := Lib.hid (may_short hmb)
      clear hmb
      go_wp2_with fail
      refine Calls.mono (CN.out _ (fit_flt HF.out B3.out) HM.out.1) ?_
      rintro e w4 ⟨⟨v, rfl, hrow, _⟩, hb⟩
      obtain ⟨aa, ca, rfl, hall⟩ := row_nms hrow (fun s hs => by have := HM.out.2.1 s hs; unfold maxLen; omega) (by have := HM.out.1; unfold maxLen; omega)
      have B4 := Lib.hid (B3.out.trans (hb.mono B3.out.size))
      have Y4 := Lib.hid (Y3.out.later hb)
      have HALL := Lib.hid hall
      obtain ⟨L, hL⟩ : ∃ x, x = nms f := ⟨_, rfl⟩
      rw [← hL] at HALL HR2 ⊢
      obtain ⟨na, hna⟩ : ∃ x, x = L.length := ⟨_, rfl⟩
      have HNA := Lib.hid hna
      have hnab : na ≤ 9223372036854775807 := by have := HALL.out.1; unfold maxLen at this; omega
      rw [← hna]
      clear hb hrow hall hL hna p0 p1 p2 p3 p4
      go_wp2_with fail
      go_loopw [10] (fun vi wr => HsR l t L w4 vi wr) (fun vi _ => na - (intOf vi).toNat)
      case atStart => exact ⟨0, Nat.zero_le _, rfl, Lib.hid (by simp), Below.refl _ _⟩
      case round =>
        obtain ⟨j, hk, rfl, hhas, hBB⟩ := hrel
        have HK := Lib.hid hk
        have HBB := Lib.hid hBB
        have HHAS := Lib.hid hhas.out
        have HBW := Lib.hid (B4.out.trans (hBB.mono B4.out.size))
        have Y5 := Lib.hid (Y4.out.later hBB)
        clear hk hBB hhas
        by_cases hlt : j < na
        · have hlz : (j : Int) < (na : Int) := by omega
          have hku : j < L.length := by rw [← HNA.out]; exact hlt
          obtain ⟨g, o, hg, hgl, hc⟩ := (HALL.out.later HBB.out).2.2 (by omega)
          have c0' := hc j hku
          obtain ⟨U, hU⟩ : ∃ V, V = L[j] := ⟨_, rfl⟩
          have HUK := Lib.hid (show L[j]? = some U by rw [hU]; exact List.getElem?_eq_getElem hku)
          rw [← hU] at c0'
          obtain ⟨s, q1, f1⟩ := bs_bytes U
          rw [q1] at c0'
          have HS1 := Lib.hid f1
          have CX := Lib.hid (CF.out s wr HNE.out (HS.out.fit HBW.out))
          obtain ⟨x, hx⟩ : ∃ x, x = fnd l t s.data.toList := ⟨_, rfl⟩
          rw [← hx] at CX
          have HX := Lib.hid (show hasN l t U = decide (0 ≤ x) by unfold hasN; rw [hx, HS1.out])
          subst hg
          clear hc hU q1 f1 hgl hx
          by_cases hx0 : x < 0
          · have HF0 := Lib.hid (show res = 9 by
              rw [HR2.out, if_neg]
              rw [List.all_eq_true]
              intro h
              have := h U (List.mem_of_getElem? HUK.out)
              rw [HX.out, decide_eq_true_eq] at this
              omega)
            go_wp2_with (go_at_call 29; refine Calls.mono CX.out ?_; rintro e w5 ⟨rfl, rfl⟩)
            go_ret
            exact ⟨by rw [HF0.out]; rfl, HBW.out⟩
          · have HY := Lib.hid (show hasN l t U = true by rw [HX.out]; exact decide_eq_true (by omega))
            go_wp2_with (go_at_call 29; refine Calls.mono CX.out ?_; rintro e w5 ⟨rfl, rfl⟩)
            go_roundw
            case rel => exact ⟨j + 1, by have := HNA.out; omega, by go_num, Lib.hid (take_all HHAS.out HUK.out HY.out), HBB.out⟩
            case measure => simp [intOf]; omega
        · have hlz : ¬ (j : Int) < (na : Int) := by omega
          obtain ⟨p0, p1, p2, p3, p4⟩ := Y5.out
          have HR3 := Lib.hid (show res = if typB l t f = true then 0 else 4 by
            rw [HR2.out, if_pos]
            rw [List.all_eq_true]
            have h := HHAS.out
            rw [show j = L.length by have := HNA.out; have := HK.out; omega, List.take_length] at h
            exact h)
          have CTF := Lib.hid (CT.out HNE.out wr (fit_flt HF.out HBW.out) (HS.out.fit HBW.out))
          obtain ⟨ty, hty⟩ : ∃ x, x = typB l t f := ⟨_, rfl⟩
          rw [← hty] at HR3 CTF
          clear hty
          go_wp2_with fail
          refine Calls.mono CTF.out ?_
          rintro e w6 ⟨rfl, hb⟩
          have B6 := Lib.hid (HBW.out.trans (hb.mono HBW.out.size))
          clear hb
          cases ty with
          | true =>
            have HF0 := Lib.hid (show res = 0 by rw [HR3.out]; simp)
            go_wp2_with fail
            go_ret
            exact ⟨by rw [HF0.out]; rfl, B6.out⟩
          | false =>
            have HF0 := Lib.hid (show res = 4 by rw [HR3.out]; simp)
            go_wp2_with fail
            go_ret
            exact ⟨by rw [HF0.out]; rfl, B6.out⟩
end Go.Proofs.YtmfkpoojfpepaaaGreatDoor.Ck
